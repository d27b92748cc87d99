/- Texts that the proof leans on, one behind the other: HtA HtB HtF FrB FrC FrCr FsS FsP RefB RefA RefC FsD FsIn RTx RDig RDec FrD FrT JoinA LnBs LnC HtR SamB HtU -/
import Derived.Test.YtajfjjmabncldaaGreatDoorSk3
import Derived.Test.YtajfjjmabncldaaGreatDoorSk2
import Derived.OwnWalk
import Derived.Deep.QuietTactic
import Derived.Lib.SmallJoins
import Derived.Lib.ItoaNum
import Derived.Deep.RegionHeld3
import Derived.Test.YtajfjjmabncldaaGreatDoorSk1
/- Messages, plain: heads, bodies, requests and responses, as package http reads them. -/
namespace Go.Proofs.YtajfjjmabncldaaGreatDoor
open Go.RowKit
set_option linter.unusedVariables false

/-- The status of a line that isn't whole. -/
def hst (full : Bool) (e : Int) : Int := if e = 0 then (if full = true then 431 else 0) else 400
def plusH (acc : Fs) (at_ : Nat) (r : Fs × Nat × Int) : Fs × Nat × Int := if r.2.1 = 0 then ([], 0, r.2.2) else (acc ++ r.1, at_ + r.2.1, 0)
def fOf (l : List UInt8) : ByteArray × ByteArray := ((prs (tx l)).1, (prs (tx l)).2.1)
def fldK (full : Bool) (l : List UInt8) (rest : Nat → Fs × Nat × Int) : Fs × Nat × Int :=
  match cutAt 2048 0 l with
  | (none, e) => ([], 0, hst full e)
  | (some i, _) => if i = 0 then ([], 2, 0) else if fldOk (l.take i) = true then rest i else ([], 0, 400)
/-- The fields of a head, of which r more may come, how many bytes they take with the empty line, and a status. -/
def fldL (full : Bool) : Nat → List UInt8 → Fs × Nat × Int
  | 0, l => fldK full l fun _ => ([], 0, 431)
  | r + 1, l => fldK full l fun i => plusH [fOf (l.take i)] (i + 2) (fldL full r (l.drop (i + 2)))
theorem fldK_miss {full : Bool} {l : List UInt8} {e : Int} {f : Nat → Fs × Nat × Int} (h : cutAt 2048 0 l = (none, e)) : fldK full l f = ([], 0, hst full e) := by
  unfold fldK; rw [h]
theorem fldK_end {full : Bool} {l : List UInt8} {f : Nat → Fs × Nat × Int} (h : cutAt 2048 0 l = (some 0, 0)) : fldK full l f = ([], 2, 0) := by
  unfold fldK; rw [h]; rfl
theorem fldK_bad {full : Bool} {i : Nat} {l : List UInt8} {f : Nat → Fs × Nat × Int} (h : cutAt 2048 0 l = (some i, 0)) (hi : ¬ i = 0) (hf : fldOk (l.take i) = false) : fldK full l f = ([], 0, 400) := by
  unfold fldK; rw [h]; simp only; rw [if_neg hi, if_neg (by rw [hf]; decide)]
theorem fldK_next {full : Bool} {i : Nat} {l : List UInt8} {f : Nat → Fs × Nat × Int} (h : cutAt 2048 0 l = (some i, 0)) (hi : ¬ i = 0) (hf : fldOk (l.take i) = true) : fldK full l f = f i := by
  unfold fldK; rw [h]; simp only; rw [if_neg hi, if_pos hf]
theorem fldL_miss {full : Bool} {r : Nat} {l : List UInt8} {e : Int} (h : cutAt 2048 0 l = (none, e)) : fldL full r l = ([], 0, hst full e) := by
  cases r <;> exact fldK_miss h
theorem fldL_end {full : Bool} {r : Nat} {l : List UInt8} (h : cutAt 2048 0 l = (some 0, 0)) : fldL full r l = ([], 2, 0) := by
  cases r <;> exact fldK_end h
theorem fldL_bad {full : Bool} {r i : Nat} {l : List UInt8} (h : cutAt 2048 0 l = (some i, 0)) (hi : ¬ i = 0) (hf : fldOk (l.take i) = false) : fldL full r l = ([], 0, 400) := by
  cases r <;> exact fldK_bad h hi hf
theorem fldL_many {full : Bool} {i : Nat} {l : List UInt8} (h : cutAt 2048 0 l = (some i, 0)) (hi : ¬ i = 0) (hf : fldOk (l.take i) = true) : fldL full 0 l = ([], 0, 431) := fldK_next h hi hf
theorem fldL_next {full : Bool} {r i : Nat} {l : List UInt8} (h : cutAt 2048 0 l = (some i, 0)) (hi : ¬ i = 0) (hf : fldOk (l.take i) = true) : fldL full (r + 1) l = plusH [fOf (l.take i)] (i + 2) (fldL full r (l.drop (i + 2))) := fldK_next h hi hf
theorem plusH_plusH (a b : Fs) (i j : Nat) (r : Fs × Nat × Int) (hj : 0 < j) : plusH a i (plusH b j r) = plusH (a ++ b) (i + j) r := by
  unfold plusH
  by_cases h : r.2.1 = 0
  · rw [if_pos h, if_pos h]; rfl
  · rw [if_neg h, if_neg h]
    simp only
    rw [if_neg (by omega), List.append_assoc, Nat.add_assoc]
theorem plusH_err (a : Fs) (i : Nat) (e : Int) : plusH a i ([], 0, e) = ([], 0, e) := rfl

theorem prs_bd (s : ByteArray) : (prs s).1.size ≤ 1000 ∧ (prs s).2.1.size ≤ 1000 := by
  unfold prs
  split
  · rename_i h
    have h2 := (Bool.and_eq_true_iff.1 h).2
    unfold okF okName okVal at h2
    simp only [Bool.and_eq_true, decide_eq_true_eq] at h2
    exact ⟨by have := h2.1.1; simp only; omega, by have := h2.2.1.1; simp only; omega⟩
  · exact ⟨by decide, by decide⟩

/-- What holds of fields that were read. -/
structure FlOk (r : Nat) (L : Nat) (R : Fs × Nat × Int) : Prop where
  len : R.1.length ≤ r
  bd : FBd 1000 R.1
  le : R.2.1 ≤ L
  zero : R.2.1 = 0 → R.1 = []
  st : ¬ R.2.1 = 0 → R.2.2 = 0
theorem FlOk.no (r L : Nat) (e : Int) : FlOk r L ([], 0, e) := ⟨Nat.zero_le _, (fun f hf => by cases hf), Nat.zero_le _, (fun _ => rfl), fun h => absurd rfl h⟩
theorem fOf_bd (l : List UInt8) : (fOf l).1.size ≤ 1000 ∧ (fOf l).2.size ≤ 1000 := prs_bd (tx l)
theorem FlOk.plus {r L i : Nat} {R : Fs × Nat × Int} (h : FlOk r (L - i) R) (hi : 0 < i) (hl : i ≤ L) (f : ByteArray × ByteArray) (hf : f.1.size ≤ 1000 ∧ f.2.size ≤ 1000) : FlOk (r + 1) L (plusH [f] i R) := by
  unfold plusH
  by_cases h0 : R.2.1 = 0
  · rw [if_pos h0]; exact FlOk.no _ _ _
  · rw [if_neg h0]
    refine ⟨?_, ?_, ?_, ?_, fun _ => rfl⟩
    · have := h.len; simp only [List.length_append, List.length_cons, List.length_nil]; omega
    · intro g hg
      rcases List.mem_append.1 hg with k | k
      · rw [List.mem_singleton.1 k]; exact hf
      · exact h.bd g k
    · have := h.le; simp only; omega
    · intro k; simp only at k; omega
theorem fldL_ok (full : Bool) : ∀ (r : Nat) (l : List UInt8), FlOk r l.length (fldL full r l) := by
  intro r
  induction r with
  | zero =>
    intro l
    rcases cut_cases 2048 l with ⟨i, hc, hl, _⟩ | ⟨e, hc⟩
    · by_cases hi : i = 0
      · subst hi; rw [fldL_end hc]; exact ⟨Nat.le_refl _, (fun f hf => by cases hf), hl, (fun k => by cases k), fun _ => rfl⟩
      · cases hf : fldOk (l.take i)
        · rw [fldL_bad hc hi hf]; exact FlOk.no _ _ _
        · rw [fldL_many hc hi hf]; exact FlOk.no _ _ _
    · rw [fldL_miss hc]; exact FlOk.no _ _ _
  | succ r ih =>
    intro l
    rcases cut_cases 2048 l with ⟨i, hc, hl, _⟩ | ⟨e, hc⟩
    · by_cases hi : i = 0
      · subst hi; rw [fldL_end hc]; exact ⟨Nat.zero_le _, (fun f hf => by cases hf), hl, (fun k => by cases k), fun _ => rfl⟩
      · cases hf : fldOk (l.take i)
        · rw [fldL_bad hc hi hf]; exact FlOk.no _ _ _
        · rw [fldL_next hc hi hf]
          have h := ih (l.drop (i + 2))
          rw [List.length_drop] at h
          exact h.plus (by omega) hl _ (fOf_bd _)
    · rw [fldL_miss hc]; exact FlOk.no _ _ _

def fullB (b : List UInt8) : Bool := decide (2048 ≤ b.length)
/-- A head, whose first line's status is told by st. -/
def headL (st : ByteArray → Int) (b : List UInt8) : Fs × Nat × Int :=
  match cutAt 2048 0 (b.take 2048) with
  | (none, e) => ([], 0, hst (fullB b) e)
  | (some i, _) => if st (tx ((b.take 2048).take i)) = 0 then plusH [] (i + 2) (fldL (fullB b) 40 ((b.take 2048).drop (i + 2))) else ([], 0, st (tx ((b.take 2048).take i)))
/-- Its first line. -/
def firstL (b : List UInt8) : ByteArray := match cutAt 2048 0 (b.take 2048) with | (some i, _) => tx ((b.take 2048).take i) | _ => tx []
theorem headL_miss {st : ByteArray → Int} {b : List UInt8} {e : Int} (h : cutAt 2048 0 (b.take 2048) = (none, e)) : headL st b = ([], 0, hst (fullB b) e) := by
  unfold headL; rw [h]
theorem headL_bad {st : ByteArray → Int} {b : List UInt8} {i : Nat} {e : Int} (h : cutAt 2048 0 (b.take 2048) = (some i, e)) (hs : ¬ st (tx ((b.take 2048).take i)) = 0) : headL st b = ([], 0, st (tx ((b.take 2048).take i))) := by
  unfold headL; rw [h]; simp only; rw [if_neg hs]
theorem headL_hit {st : ByteArray → Int} {b : List UInt8} {i : Nat} {e : Int} (h : cutAt 2048 0 (b.take 2048) = (some i, e)) (hs : st (tx ((b.take 2048).take i)) = 0) : headL st b = plusH [] (i + 2) (fldL (fullB b) 40 ((b.take 2048).drop (i + 2))) := by
  unfold headL; rw [h]; simp only; rw [if_pos hs]
theorem firstL_hit {b : List UInt8} {i : Nat} {e : Int} (h : cutAt 2048 0 (b.take 2048) = (some i, e)) : firstL b = tx ((b.take 2048).take i) := by
  unfold firstL; rw [h]
theorem headL_ok (st : ByteArray → Int) (b : List UInt8) : FlOk 40 (min 2048 b.length) (headL st b) := by
  have hlt : (b.take 2048).length = min 2048 b.length := List.length_take
  rcases cut_cases 2048 (b.take 2048) with ⟨i, hc, hl, _⟩ | ⟨e, hc⟩
  · by_cases hs : st (tx ((b.take 2048).take i)) = 0
    · rw [headL_hit hc hs]
      have h := fldL_ok (fullB b) 40 ((b.take 2048).drop (i + 2))
      rw [List.length_drop] at h
      unfold plusH
      by_cases h0 : (fldL (fullB b) 40 ((b.take 2048).drop (i + 2))).2.1 = 0
      · rw [if_pos h0]; exact FlOk.no _ _ _
      · rw [if_neg h0]
        exact ⟨h.len, h.bd, by have := h.le; simp only; omega, (fun k => by simp only at k; omega), fun _ => rfl⟩
    · rw [headL_bad hc hs]; exact FlOk.no _ _ _
  · rw [headL_miss hc]; exact FlOk.no _ _ _

def tHost : ByteArray := ⟨#[72, 111, 115, 116]⟩
/-- Could nobody take a request for another host's? -/
def hostsOk (hs : List ByteArray) (minor : Int) : Bool := match hs with
  | [] => !(minor == 1)
  | h :: r => decide (r.length = 0) && (hostP h).2
def headSt (fs : Fs) (minor : Int) : Int := if hostsOk (getF fs tHost) minor = true then (reqF fs minor).2.2 else 400
/-- The head of a request. -/
structure Hd where
  m : ByteArray
  t : ByteArray
  minor : Int
  fs : Fs
  n : Nat
  st : Int
def hdNo (st : Int) : Hd := ⟨⟨#[]⟩, ⟨#[]⟩, 0, [], 0, st⟩
def rqSt (s : ByteArray) : Int := (rqP s).code
def headQ (b : List UInt8) : Hd :=
  if (headL rqSt b).2.1 = 0 then hdNo (headL rqSt b).2.2
  else if headSt (headL rqSt b).1 (rqP (firstL b)).minor = 0 then ⟨(rqP (firstL b)).method, (rqP (firstL b)).target, (rqP (firstL b)).minor, (headL rqSt b).1, (headL rqSt b).2.1, 0⟩
  else hdNo (headSt (headL rqSt b).1 (rqP (firstL b)).minor)
/-- A body behind a head: its bytes, how many bytes both take, the error. -/
def bodyQ (b : List UInt8) (head : Nat) (size : Int) (coded : Bool) : List UInt8 × Nat × Int :=
  if coded = true then (if (decR 4096 (b.drop head)).2.1 = 0 then ([], 0, (decR 4096 (b.drop head)).2.2) else ((decR 4096 (b.drop head)).1, head + (decR 4096 (b.drop head)).2.1, 0))
  else if ((b.length - head : Nat) : Int) < size then ([], 0, 0) else ((b.drop head).take size.toNat, head + size.toNat, 0)
def bodySt (e : Int) : Int := if e = 0 then 0 else if e = 2 then 413 else 400
/-- A request, its body, how many bytes it takes, its status. -/
structure Rd where
  m : ByteArray
  t : ByteArray
  minor : Int
  fs : Fs
  body : List UInt8
  n : Nat
  st : Int
def rdNo (st : Int) : Rd := ⟨⟨#[]⟩, ⟨#[]⟩, 0, [], [], 0, st⟩
def rdOf (h : Hd) (x : List UInt8 × Nat × Int) : Rd := if x.2.1 = 0 then rdNo (bodySt x.2.2) else ⟨h.m, h.t, h.minor, h.fs, x.1, x.2.1, 0⟩
def bodyOf (h : Hd) (b : List UInt8) : List UInt8 × Nat × Int := bodyQ b h.n (reqF h.fs h.minor).1 (reqF h.fs h.minor).2.1
def reqQ (b : List UInt8) : Rd := if (headQ b).n = 0 then rdNo (headQ b).st else rdOf (headQ b) (bodyOf (headQ b) b)
/-- What holds of a head. -/
structure HdOk (L : Nat) (h : Hd) : Prop where
  len : h.fs.length ≤ 40
  bd : FBd 1000 h.fs
  le : h.n ≤ L ∧ h.n ≤ 2048
  no : h.n = 0 → h = hdNo h.st
  st : ¬ h.n = 0 → h.st = 0
theorem headQ_ok (b : List UInt8) : HdOk b.length (headQ b) := by
  have k := headL_ok rqSt b
  unfold headQ
  by_cases h0 : (headL rqSt b).2.1 = 0
  · rw [if_pos h0]; exact ⟨Nat.zero_le _, (fun f hf => by cases hf), ⟨Nat.zero_le _, Nat.zero_le _⟩, (fun _ => rfl), fun h => absurd rfl h⟩
  · rw [if_neg h0]
    split
    · exact ⟨k.len, k.bd, ⟨by have := k.le; simp only; omega, by have := k.le; simp only; omega⟩, (fun h => absurd h h0), fun _ => rfl⟩
    · exact ⟨Nat.zero_le _, (fun f hf => by cases hf), ⟨Nat.zero_le _, Nat.zero_le _⟩, (fun _ => rfl), fun h => absurd rfl h⟩
theorem told_nn (fs : Fs) (minor : Int) : 0 ≤ (toldF fs minor).2.1 ∧ (toldF fs minor).2.1 ≤ 4096 := by
  have h := lenL_bd (listF fs tCL)
  have h2 : 0 ≤ (lengthF fs).1 := h.1
  unfold toldF
  split
  · exact ⟨by decide, by decide⟩
  · split
    · split <;> exact ⟨by decide, by decide⟩
    · split
      · exact ⟨by decide, by decide⟩
      · split
        · exact ⟨by decide, by decide⟩
        · split
          · exact ⟨by decide, by decide⟩
          · rename_i q; exact ⟨h2, by simp only; omega⟩
end Go.Proofs.YtajfjjmabncldaaGreatDoor

/- Package http: a line of a head. -/
namespace Go.Proofs.YtajfjjmabncldaaGreatDoor
open Go.RowKit
set_option linter.unusedVariables false

/-- The room of a head, from a place on. -/
def roomL (b : List UInt8) (at_ : Nat) : List UInt8 := (b.take 2048).drop at_
def hcutV (b : List UInt8) (at_ : Nat) : Value := match cutAt 2048 0 (roomL b at_) with
  | (some i, _) => .tuple #[.string (tx ((roomL b at_).take i)), .int .i64 ((i : Int) + 2), .int .i64 0]
  | (none, e) => .tuple #[.string ⟨#[]⟩, .int .i64 0, .int .i64 (hst (fullB b) e)]
theorem hcutV_hit {b : List UInt8} {at_ i : Nat} {e : Int} (h : cutAt 2048 0 (roomL b at_) = (some i, e)) : hcutV b at_ = .tuple #[.string (tx ((roomL b at_).take i)), .int .i64 ((i : Int) + 2), .int .i64 0] := by
  unfold hcutV; rw [h]
theorem hcutV_miss {b : List UInt8} {at_ : Nat} {e : Int} (h : cutAt 2048 0 (roomL b at_) = (none, e)) : hcutV b at_ = .tuple #[.string ⟨#[]⟩, .int .i64 0, .int .i64 (hst (fullB b) e)] := by
  unfold hcutV; rw [h]
set_option maxRecDepth 100000 in
set_option maxHeartbeats 2000000 in
theorem hcut_any (b : List UInt8) (kb c : Nat) (a : Option Addr) (at_ : Nat) (w : World) (hs : Src w kb (.slice a b.length c) b) (hat : at_ ≤ min 2048 b.length) :
    Calls Tryz.prog 135 #[.slice a b.length c, .int .i64 (at_ : Nat)] w fun e w' => e = .returned (hcutV b at_) ∧ w' = w := by
  have hlen := hs.len
  obtain ⟨n, hn⟩ : ∃ n, n = b.length := ⟨_, rfl⟩
  obtain ⟨m, hm⟩ : ∃ m, m = min 2048 n := ⟨_, rfl⟩
  have hmin : min (n : Int) 2048 = (m : Int) := by omega
  have hR : roomL b at_ = (b.take m).drop at_ := by
    unfold roomL
    congr 1
    rw [hm, hn, ← List.take_eq_take_min]
  have HC : Hid (∀ v' : Value, Src w kb v' (roomL b at_) → Calls Tryz.prog 167 #[v', .int .i64 2048] w fun e w' => e = .returned (cutV 2048 (roomL b at_)) ∧ w' = w) := fun v' h => cut_any _ kb v' 2048 w h
  have hcell : Hid (∀ a' : Option Addr, (at_ < c → a' = a.map (fun x => x.add at_)) → Src w kb (.slice a' (m - at_) (c - at_)) (roomL b at_)) := fun a' ha' => by
    rw [hR]
    exact (hs.take (m := m) (by omega)).cut (by rw [List.length_take]; omega) ha'
  have hfull : fullB b = decide (m = 2048) := by unfold fullB; rw [decide_eq_decide]; omega
  rw [← hn] at hlen ⊢
  have hc1 : m ≤ c := by omega
  have hat1 : at_ ≤ m := by omega
  have hc2 : c ≤ maxLen := hlen.2.2
  unfold maxLen at hc2
  have hmn : m ≤ n := by omega
  have hm2 : m ≤ 2048 := by omega
  have hnc : n ≤ c := by omega
  clear hs hat hlen hn hR hm
  rcases cut_cases 2048 (roomL b at_) with ⟨i, hc, hl, _⟩ | ⟨e, hc⟩
  · rw [hcutV_hit hc]
    rw [cutV_hit hc] at HC
    have hi : i ≤ 2048 := cutAt_le 2048 _ 0 i 0 (by decide) hc
    have hi2 : (((i : Int) + 2) == 0) = false := by simp; omega
    have hi3 : ¬ ((i : Int) + 2) = 0 := by omega
    clear hc hl hfull
    show Calls Tryz.prog 135 #[.slice a n c, .int .i64 (at_ : Nat)] w fun e w' => e = .returned (.tuple #[.string ⟨((roomL b at_).take i).toArray⟩, .int .i64 ((i : Int) + 2), .int .i64 0]) ∧ w' = w
    generalize (⟨((roomL b at_).take i).toArray⟩ : ByteArray) = s at *
    go_enter Tryz.func135, Tryz.ntmps135
    go_wp2_with fail
    all_goals
      refine (HC.out _ (by first | (have hx := hcell.out a (fun h => by omega); rw [show c - at_ = 0 by omega] at hx; exact hx) | exact hcell.out _ (fun _ => rfl) | exact hcell.out _ (fun h => if_neg (by omega)) | exact hcell.out _ (fun h => by omega))).mono ?_
      rintro e w1 ⟨rfl, rfl⟩
      go_wp2
      go_ret3
      exact ⟨rfl, rfl⟩
  · rw [hcutV_miss hc]
    rw [cutV_miss hc] at HC
    clear hc
    by_cases he : e = 0
    · subst he
      by_cases hf : m = 2048
      · subst hf
        rw [hfull]
        show Calls Tryz.prog 135 #[.slice a n c, .int .i64 (at_ : Nat)] w fun e w' => e = .returned (.tuple #[.string ⟨#[]⟩, .int .i64 0, .int .i64 431]) ∧ w' = w
        clear hfull
        go_enter Tryz.func135, Tryz.ntmps135
        go_wp2_with fail
        all_goals
          refine (HC.out _ (by first | (have hx := hcell.out a (fun h => by omega); rw [show c - at_ = 0 by omega] at hx; exact hx) | exact hcell.out _ (fun _ => rfl) | exact hcell.out _ (fun h => if_neg (by omega)) | exact hcell.out _ (fun h => by omega))).mono ?_
          rintro e w1 ⟨rfl, rfl⟩
          go_wp2
          go_ret3
          exact ⟨rfl, rfl⟩
      · have hf2 : ((m : Int) == 2048) = false := by simp; omega
        have hf3 : ¬ (m : Int) = 2048 := by omega
        have e1 : hst (fullB b) 0 = 0 := by rw [hfull, decide_eq_false hf]; rfl
        rw [e1]
        clear hfull e1 hf
        go_enter Tryz.func135, Tryz.ntmps135
        go_wp2_with fail
        all_goals
          refine (HC.out _ (by first | (have hx := hcell.out a (fun h => by omega); rw [show c - at_ = 0 by omega] at hx; exact hx) | exact hcell.out _ (fun _ => rfl) | exact hcell.out _ (fun h => if_neg (by omega)) | exact hcell.out _ (fun h => by omega))).mono ?_
          rintro e w1 ⟨rfl, rfl⟩
          go_wp2
          go_ret3
          exact ⟨rfl, rfl⟩
    · have e1 : hst (fullB b) e = 400 := by unfold hst; rw [if_neg he]
      have he2 : (e != 0) = true := by simpa using he
      rw [e1]
      clear hfull e1
      go_enter Tryz.func135, Tryz.ntmps135
      go_wp2_with fail
      all_goals
        refine (HC.out _ (by first | (have hx := hcell.out a (fun h => by omega); rw [show c - at_ = 0 by omega] at hx; exact hx) | exact hcell.out _ (fun _ => rfl) | exact hcell.out _ (fun h => if_neg (by omega)) | exact hcell.out _ (fun h => by omega))).mono ?_
        rintro e w1 ⟨rfl, rfl⟩
        go_wp2
        go_ret3
        exact ⟨rfl, rfl⟩
end Go.Proofs.YtajfjjmabncldaaGreatDoor

/- Package http: the body behind a head. -/
namespace Go.Proofs.YtajfjjmabncldaaGreatDoor
open Go.RowKit
set_option linter.unusedVariables false

theorem OwnF.kept {B : Nat} {w w' : World} {v : Value} {fs : Fs} (h : OwnF B w v fs) (hk : ∀ k, B ≤ k → k < w.heap.size → w'.heap[k]? = w.heap[k]?) : OwnF B w' v fs := by
  obtain ⟨h1, h2 | ⟨g, cap, cur, hv, hg, hh, r⟩⟩ := h
  · exact ⟨h1, .inl h2⟩
  · exact ⟨h1, .inr ⟨g, cap, cur, hv, hg, (hk g hg (heap_lt hh)).trans hh, r⟩⟩
theorem Own.kept {B : Nat} {w w' : World} {v : Value} {X : List UInt8} (h : Own B w v X) (hk : ∀ k, B ≤ k → k < w.heap.size → w'.heap[k]? = w.heap[k]?) : Own B w' v X := by
  obtain ⟨h1, h2 | ⟨g, cap, cur, hv, hg, hh, r⟩⟩ := h
  · exact ⟨h1, .inl h2⟩
  · exact ⟨h1, .inr ⟨g, cap, cur, hv, hg, (hk g hg (heap_lt hh)).trans hh, r⟩⟩

theorem decL_le : ∀ (f m : Nat) (l : List UInt8), (decL f m l).2.1 ≤ l.length := by
  intro f
  induction f with
  | zero => intro m l; exact Nat.zero_le _
  | succ f ih =>
    intro m l
    rcases oneP_cases m l with ⟨e, h⟩ | ⟨i, h, hl, _⟩ | ⟨i, k, h, hk, hm, hl, _⟩
    · rw [decL_miss h]; exact Nat.zero_le _
    · rw [decL_last h (by omega)]
      have q := trailL_le 40 (l.drop (i + 2))
      rw [List.length_drop] at q
      unfold plusD
      split
      · exact Nat.zero_le _
      · simp only; omega
    · rw [decL_next h (by omega) (by omega)]
      have q := ih (m - k) (l.drop (i + 2 + k + 2))
      rw [List.length_drop] at q
      unfold plusD
      split
      · exact Nat.zero_le _
      · simp only; omega
theorem decR_le (m : Nat) (l : List UInt8) : (decR m l).2.1 ≤ l.length := decL_le _ _ _

set_option maxRecDepth 100000 in
set_option maxHeartbeats 2000000 in
theorem bclone_any (b : List UInt8) (kb n c : Nat) (a : Option Addr) (w : World) (hs : Src w kb (.slice a n c) b) (hk : 0 < b.length → kb < w.heap.size) (hlen : b.length ≤ 1099511627776) :
    Calls Tryz.prog 45 #[.slice a n c] w fun e w' => ∃ v', e = .returned v' ∧ Own w.heap.size w' v' b ∧ Below w.heap.size w w' := by
  have hl := hs.len
  cases a with
  | none =>
    have hb : b = [] := by
      obtain ⟨a', c', e, h1, h2, h3⟩ := hs
      rcases Nat.eq_zero_or_pos b.length with q | q
      · exact List.eq_nil_of_length_eq_zero q
      · obtain ⟨off, q1, _⟩ := h3 q
        obtain ⟨e1, _, _⟩ := slice_inj e
        rw [← e1] at q1
        cases q1
    subst hb
    clear hs hk hl hlen
    have hnil : ∀ W : World, (binOp .eql 23 (.slice none n c) (.slice none 0 0)).run Tryz.prog W = .ok (.bool true) W := fun W => Lib.run_eql_slice_nil W 23 5 none n c 0 0 Tryz.underlying23
    go_enter Tryz.func45, Tryz.ntmps45
    go_wp2
    go_ret
    exact ⟨_, rfl, Own.nil _ _, Below.refl _ _⟩
  | some ad =>
    have U0 : Below w.heap.size w (w.alloc (.cells #[] 5)) := (Below.refl _ _).alloc (Nat.le_refl _) _
    obtain ⟨v2, w2, r2, O2, B2⟩ := own_append (Own.empty w.heap.size w (Nat.le_refl _)) (hs.keep hk U0) (fun e => by cases e) (by simp only [List.length_nil]; omega) (by simp)
    have HR : Hid _ := r2
    have HO : Hid (Own w.heap.size w2 v2 ([] ++ b)) := O2
    have HB : Hid (Below w.heap.size w w2) := U0.trans B2
    clear hs hk hl hlen U0 r2 O2 B2
    obtain ⟨bk, off, sp⟩ := ad
    have hnil : ∀ W : World, (binOp .eql 23 (.slice (some ⟨bk, off, sp⟩) n c) (.slice none 0 0)).run Tryz.prog W = .ok (.bool false) W := fun W => Lib.run_eql_slice_nil W 23 5 _ n c 0 0 Tryz.underlying23
    go_enter Tryz.func45, Tryz.ntmps45
    go_wp2_with (at_builtin; refine wpList_append_run2 rfl _ _ 23 23 rfl _ _ _ w2 rfl rfl HR.out ?_)
    go_ret
    exact ⟨_, rfl, HO.out, HB.out⟩

theorem bstat_any (e : Int) (w : World) : Calls Tryz.prog 66 #[.int .i64 e] w fun r w' => r = .returned (.int .i64 (bodySt e)) ∧ w' = w := by
  unfold bodySt
  by_cases h0 : e = 0
  · subst h0
    rw [if_pos rfl]
    go_enter Tryz.func66, Tryz.ntmps66
    go_wp2
    go_ret
    exact ⟨rfl, rfl⟩
  · have h0' : (e == 0) = false := by simpa using h0
    rw [if_neg h0]
    by_cases h2 : e = 2
    · subst h2
      rw [if_pos rfl]
      go_enter Tryz.func66, Tryz.ntmps66
      go_wp2
      go_ret
      exact ⟨rfl, rfl⟩
    · have h2' : (e == 2) = false := by simpa using h2
      rw [if_neg h2]
      go_enter Tryz.func66, Tryz.ntmps66
      go_wp2
      go_ret
      exact ⟨rfl, rfl⟩

set_option maxRecDepth 100000 in
set_option maxHeartbeats 4000000 in
theorem body_any (b : List UInt8) (kb c : Nat) (a : Option Addr) (head sz : Nat) (coded : Bool) (w : World) (hs : Src w kb (.slice a b.length c) b) (hk : 0 < b.length → kb < w.heap.size) (hM : MaxL w) (hh : head ≤ b.length) (hlen : b.length ≤ 1099511627776) (hsz : sz ≤ 1048576) :
    Calls Tryz.prog 65 #[.slice a b.length c, .int .i64 (head : Nat), .int .i64 (sz : Nat), .bool coded] w (DecQ w (bodyQ b head (sz : Nat) coded)) := by
  have hl := hs.len
  have hl3 : c ≤ maxLen := hl.2.2
  have HK : Hid (0 < (b.drop head).length → kb < w.heap.size) := fun q => hk (by rw [List.length_drop] at q; omega)
  have HC : Hid (∀ a' : Option Addr, (head < c → a' = a.map (fun x => x.add head)) → Src w kb (.slice a' (b.length - head) (c - head)) (b.drop head)) := fun a' ha' => hs.cut hh ha'
  have HLD : Hid ((b.drop head).length = b.length - head) := List.length_drop
  have hnc : b.length ≤ c := by omega
  unfold maxLen at hl3
  have HQ : Hid (bodyQ b head (sz : Nat) coded = if coded = true then (if (decR 4096 (b.drop head)).2.1 = 0 then ([], 0, (decR 4096 (b.drop head)).2.2) else ((decR 4096 (b.drop head)).1, head + (decR 4096 (b.drop head)).2.1, 0)) else if ((b.length - head : Nat) : Int) < ((sz : Nat) : Int) then ([], 0, 0) else ((b.drop head).take sz, head + sz, 0)) := rfl
  have HM : Hid (MaxL w) := hM
  have HOK : Hid (okR (decR 4096 (b.drop head))) := decL_ok _ _ _
  have HLE : Hid ((decR 4096 (b.drop head)).2.1 ≤ b.length - head) := by
    rw [Hid, ← HLD.out]; exact decR_le _ _
  clear hs hk hM hl
  generalize bodyQ b head (sz : Nat) coded = Q at *
  cases coded
  · rw [if_neg (by decide)] at HQ
    by_cases hlt : ((b.length - head : Nat) : Int) < ((sz : Nat) : Int)
    · rw [if_pos hlt] at HQ
      generalize b.length = n at *
      clear HOK HLE
      go_enter Tryz.func65, Tryz.ntmps65
      go_wp2
      all_goals
        refine bodyPost_ret (v := .tuple #[.slice none 0 0, .int .i64 0, .int .i64 0]) (by simp [results, Tryz.results65, go_sem]) rfl ?_
        rw [HQ.out]
        exact decq_no (Below.refl _ _)
    · rw [if_neg hlt] at HQ
      have hle : sz ≤ b.length - head := by omega
      have HCL : Hid (∀ (a' : Option Addr) (c' : Nat), Src w kb (.slice a' sz c') ((b.drop head).take sz) → Calls Tryz.prog 45 #[.slice a' sz c'] w fun e w' => ∃ v', e = .returned v' ∧ Own w.heap.size w' v' ((b.drop head).take sz) ∧ Below w.heap.size w w') := fun a' c' h =>
        bclone_any _ kb _ _ a' w h (fun q => HK.out (by rw [List.length_take] at q; omega)) (by rw [List.length_take, HLD.out]; omega)
      have hcell : Hid (∀ a' : Option Addr, (head < c → a' = a.map (fun x => x.add head)) → Src w kb (.slice a' sz (c - head)) ((b.drop head).take sz)) := fun a' ha' => (HC.out a' ha').take (by rw [HLD.out]; exact hle)
      have hsum : IntKind.i64.wrap ((head : Int) + (sz : Int)) = ((head + sz : Nat) : Int) := by simp [IntKind.wrap, IntKind.bits, IntKind.signed]; omega
      generalize (b.drop head).take sz = X at *
      generalize b.length = n at *
      clear HOK HLE HC HK HLD HM
      go_enter Tryz.func65, Tryz.ntmps65
      go_wp2_with fail
      all_goals
        refine (HCL.out _ _ (by first | (have hx := hcell.out a (fun h => by omega); rw [show c - head = 0 by omega] at hx; exact hx) | exact hcell.out _ (fun _ => rfl) | exact hcell.out _ (fun h => if_neg (by omega)) | exact hcell.out _ (fun h => by omega))).mono ?_
        rintro e w1 ⟨v1, rfl, O1, B1⟩
        obtain ⟨a1, c1, rfl, _⟩ := O1.form
        have HO : Hid (Own w.heap.size w1 (.slice a1 X.length c1) X) := O1
        clear O1
        generalize X.length = xl at *
        go_wp2
        refine bodyPost_ret (v := .tuple #[.slice a1 xl c1, .int .i64 ((head + sz : Nat) : Int), .int .i64 0]) (by simp [results, Tryz.results65, go_sem]) rfl ?_
        rw [HQ.out]
        exact ⟨_, rfl, HO.out, B1⟩
  · rw [if_pos rfl] at HQ
    have HD : Hid (∀ v' : Value, Src w kb v' (b.drop head) → Calls Tryz.prog 106 #[v', .int .i64 4096] w (DecQ w (decR 4096 (b.drop head)))) := fun v' h =>
      decode_any _ kb v' 4096 w h HK.out HM.out (by rw [HLD.out]; omega) (by decide)
    have hcell : Hid (∀ a' : Option Addr, (head < c → a' = a.map (fun x => x.add head)) → Src w kb (.slice a' (b.length - head) (c - head)) (b.drop head)) := HC.out
    clear HC HK HLD HM
    generalize decR 4096 (b.drop head) = D at *
    obtain ⟨D1, D2, D3⟩ := D
    simp only at HQ HLE
    generalize b.length = n at *
    by_cases h0 : D2 = 0
    · subst h0
      rw [if_pos rfl] at HQ
      go_enter Tryz.func65, Tryz.ntmps65
      go_wp2_with fail
      all_goals
        refine (HD.out _ (by first | (have hx := hcell.out a (fun h => by omega); rw [show c - head = 0 by omega] at hx; exact hx) | exact hcell.out _ (fun _ => rfl) | exact hcell.out _ (fun h => if_neg (by omega)) | exact hcell.out _ (fun h => by omega))).mono ?_
        rintro e w1 ⟨v1, rfl, O1, B1⟩
        obtain ⟨a1, c1, rfl, _⟩ := O1.form
        clear O1
        simp only
        generalize D1.length = xl at *
        go_wp2
        refine bodyPost_ret (v := .tuple #[.slice none 0 0, .int .i64 0, .int .i64 D3]) (by simp [results, Tryz.results65, go_sem]) rfl ?_
        rw [HQ.out]
        exact decq_no B1
    · rw [if_neg h0] at HQ
      have h0' : ¬ ((D2 : Nat) : Int) = 0 := by omega
      have h0'' : (((D2 : Nat) : Int) == 0) = false := by simpa using h0'
      have hle : D2 ≤ n - head := HLE.out
      have hsum : IntKind.i64.wrap ((head : Int) + (D2 : Int)) = ((head + D2 : Nat) : Int) := by simp [IntKind.wrap, IntKind.bits, IntKind.signed]; omega
      go_enter Tryz.func65, Tryz.ntmps65
      go_wp2_with fail
      all_goals
        refine (HD.out _ (by first | (have hx := hcell.out a (fun h => by omega); rw [show c - head = 0 by omega] at hx; exact hx) | exact hcell.out _ (fun _ => rfl) | exact hcell.out _ (fun h => if_neg (by omega)) | exact hcell.out _ (fun h => by omega))).mono ?_
        rintro e w1 ⟨v1, rfl, O1, B1⟩
        obtain ⟨a1, c1, rfl, _⟩ := O1.form
        have HO : Hid (Own w.heap.size w1 (.slice a1 D1.length c1) D1) := O1
        clear O1
        simp only
        generalize D1.length = xl at *
        go_wp2
        refine bodyPost_ret (v := .tuple #[.slice a1 xl c1, .int .i64 ((head + D2 : Nat) : Int), .int .i64 0]) (by simp [results, Tryz.results65, go_sem]) rfl ?_
        rw [HQ.out]
        exact ⟨_, rfl, HO.out, B1⟩
end Go.Proofs.YtajfjjmabncldaaGreatDoor

/- Package frame: what each call answers of fields. -/
namespace Go.Proofs.YtajfjjmabncldaaGreatDoor
open Go.ChangeShapes Go.WideShapes Go.ChangeAt Go.RowKit
set_option linter.unusedVariables false

theorem Fds.over {w W : World} {v : Value} {fs : Fs} (h : Fds w.heap.size w v fs) (b : Below w.heap.size w W) : Fds W.heap.size W v fs := (h.keep b).mono b.size
theorem int_pos (n : Nat) : decide ((0 : Int) < (n : Int)) = decide (0 < n) := by
  by_cases h : 0 < n
  · rw [decide_eq_true h, decide_eq_true (by omega)]
  · rw [decide_eq_false h, decide_eq_false (by omega)]

set_option maxHeartbeats 1000000 in
theorem there_any (fs : Fs) (a : Option Addr) (c : Nat) (name : ByteArray) (w : World) (hf : Fds w.heap.size w (.slice a fs.length c) fs) (hb : FBd 1048576 fs) (hn : name.size ≤ 1048576) (hl : fs.length ≤ 1024) :
    Calls Tryz.prog 120 #[.slice a fs.length c, .string name] w fun e w' => e = .returned (.bool (thereF fs name)) ∧ Below w.heap.size w w' := by
  have HG : Hid (Calls Tryz.prog 67 #[.slice a fs.length c, .string name] w fun e w' => ∃ ao cv, e = .returned (.slice ao (getF fs name).length cv) ∧ OwnT w.heap.size w' (.slice ao (getF fs name).length cv) (getF fs name) ∧ Below w.heap.size w w') := get_any fs a c name w hf (hb.mono (by decide)) (by omega) (by omega)
  unfold thereF
  clear hf hb hn hl
  generalize getF fs name = vs at *
  go_enter Tryz.func120, Tryz.ntmps120
  go_wp2_with fail
  refine HG.out.mono ?_
  rintro e w1 ⟨ao1, cv1, rfl, own1, B1⟩
  clear own1 HG
  go_wp2
  go_ret
  exact ⟨ret_bool (by first | exact int_pos _ | simp), B1⟩

set_option maxHeartbeats 1000000 in
theorem chunked_any (fs : Fs) (a : Option Addr) (c : Nat) (w : World) (hf : Fds w.heap.size w (.slice a fs.length c) fs) (hb : FBd 1048576 fs) (hl : fs.length ≤ 1024) (hM : MaxL w) :
    Calls Tryz.prog 121 #[.slice a fs.length c] w fun e w' => e = .returned (.bool (chunkedF fs)) ∧ Below w.heap.size w w' := by
  have HL : Hid (Calls Tryz.prog 74 #[.slice a fs.length c, .string ⟨#[84, 114, 97, 110, 115, 102, 101, 114, 45, 69, 110, 99, 111, 100, 105, 110, 103]⟩] w fun e w' => ∃ ao cv, e = .returned (.slice ao (listF fs tTE).length cv) ∧ OwnT w.heap.size w' (.slice ao (listF fs tTE).length cv) (listF fs tTE) ∧ Below w.heap.size w w') := list_any fs a c tTE w hf hb (by decide) hl hM
  have HBD : Hid (TBd 1048576 (listF fs tTE)) := listF_bd hb
  unfold chunkedF
  clear hf hb hl hM
  generalize listF fs tTE = xs at *
  generalize hck : chunkL xs = ck
  have HCK : Hid (chunkL xs = ck) := hck
  clear hck
  go_enter Tryz.func121, Tryz.ntmps121
  go_wp2_with fail
  refine HL.out.mono ?_
  rintro e w1 ⟨ao1, cv1, rfl, own1, B1⟩
  have T1 := own1.txs
  clear own1 HL
  match xs, T1, HBD, HCK with
  | [], _, _, HCK =>
    go_wp2
    go_ret
    exact ⟨ret_bool HCK.out, B1⟩
  | [p], T1, HBD, HCK =>
    obtain ⟨a', c', e, hnil, q1, q2, q3⟩ := T1
    obtain ⟨rfl, _, rfl⟩ := slice_inj e
    obtain ⟨g, off, rfl, hg, hc⟩ := q3 Nat.one_pos
    have hc0 : w1.cell? ⟨g, off, none⟩ = some (.string p) := hc 0 Nat.one_pos
    have HS : Hid (∀ W, Calls Tryz.prog 107 #[.string p, .string ⟨#[99, 104, 117, 110, 107, 101, 100]⟩] W fun e w' => e = .returned (.bool (smT p tCh)) ∧ Below W.heap.size W w') := fun W => same_sm p tCh W (by have := HBD.out p (List.mem_cons_self ..); unfold maxLen; omega) (by decide)
    have HK2 : Hid (smT p tCh = ck) := HCK.out
    clear e hnil q1 q2 q3 hc HBD HCK
    generalize smT p tCh = b at *
    go_wp2_with fail
    refine (HS.out _).mono ?_
    rintro e w2 ⟨rfl, B2⟩
    go_wp2
    go_ret
    exact ⟨ret_bool HK2.out, B1.trans (B2.mono B1.size)⟩
  | p :: q :: r, _, _, HCK =>
    have HK2 : Hid (false = ck) := HCK.out
    have h1 : ¬ (((p :: q :: r).length : Int) = 1) := by simp only [List.length_cons]; omega
    have h2 : (((p :: q :: r).length : Int) == 1) = false := by simpa using h1
    clear h1 HCK
    generalize (p :: q :: r).length = n at *
    go_wp2
    go_ret
    exact ⟨ret_bool HK2.out, B1⟩

theorem sameN_snoc {f : Int} {ps : List ByteArray} {k : Nat} (h : k < ps.length) : sameN f (ps.take (k + 1)) = (sameN f (ps.take k) && (numB 10 18 ps[k] && decide (numI 10 18 ps[k] = f))) := by
  rw [List.take_succ_eq_append_getElem h]
  unfold sameN
  rw [List.all_append]
  simp
theorem eq_dec (x y : Int) : (x == y) = decide (x = y) := by
  by_cases h : x = y
  · rw [decide_eq_true h, h]; simp
  · rw [decide_eq_false h]; simpa using h

set_option maxRecDepth 100000 in
set_option maxHeartbeats 1000000 in
theorem length_any (fs : Fs) (a : Option Addr) (c : Nat) (w : World) (hf : Fds w.heap.size w (.slice a fs.length c) fs) (hb : FBd 1048576 fs) (hl : fs.length ≤ 1024) (hM : MaxL w) :
    Calls Tryz.prog 122 #[.slice a fs.length c] w fun e w' => e = .returned (.tuple #[.int .i64 (lengthF fs).1, .bool (lengthF fs).2]) ∧ Below w.heap.size w w' := by
  have HL : Hid (Calls Tryz.prog 74 #[.slice a fs.length c, .string ⟨#[67, 111, 110, 116, 101, 110, 116, 45, 76, 101, 110, 103, 116, 104]⟩] w fun e w' => ∃ ao cv, e = .returned (.slice ao (listF fs tCL).length cv) ∧ OwnT w.heap.size w' (.slice ao (listF fs tCL).length cv) (listF fs tCL) ∧ Below w.heap.size w w') := list_any fs a c tCL w hf hb (by decide) hl hM
  have HBD : Hid (TBd 1048576 (listF fs tCL)) := listF_bd hb
  have HLN : Hid ((listF fs tCL).length ≤ 1024 * 1048578) := listF_len hb hl
  unfold lengthF
  clear hf hb hl hM
  generalize listF fs tCL = xs at *
  generalize hck : lenL xs = ck
  have HCK : Hid (lenL xs = ck) := hck
  clear hck
  obtain ⟨n, r⟩ := ck
  go_enter Tryz.func122, Tryz.ntmps122
  go_wp2_with fail
  refine HL.out.mono ?_
  rintro e w1 ⟨ao1, cv1, rfl, own1, B1⟩
  have T1 := own1.txs
  clear own1 HL
  match xs, T1, HBD, HCK, HLN with
  | [], _, _, HCK, _ =>
    have HK2 : Hid ((0, false) = (n, r)) := HCK.out
    clear HCK
    go_wp2
    go_ret2
    exact ⟨ret2_ib (congrArg Prod.fst HK2.out) (congrArg Prod.snd HK2.out), B1⟩
  | p :: ps, T1, HBD, HCK, HLN =>
    obtain ⟨a', c', e, hnil, q1, q2, q3⟩ := T1
    obtain ⟨rfl, _, rfl⟩ := slice_inj e
    obtain ⟨g, off, rfl, hg, hc⟩ := q3 (Nat.zero_lt_succ _)
    have hc0 : w1.cell? ⟨g, off, none⟩ = some (.string p) := hc 0 (Nat.zero_lt_succ _)
    have HC : Hid (∀ (j : Nat) (hj : j < ps.length), w1.cell? ⟨g, off + 1 + j, none⟩ = some (.string ps[j])) := fun j hj => by
      have k := hc (j + 1) (by simpa using hj)
      rw [show off + (j + 1) = off + 1 + j by omega] at k
      exact k
    have HS : Hid (∀ x ∈ p :: ps, ∀ W, Calls Tryz.prog 156 #[.string x] W fun e w' => e = .returned (.tuple #[.int .i64 (numI 10 18 x), .bool (numB 10 18 x)]) ∧ w' = W) := fun x hx W => decimal_any x W (by have := HBD.out x hx; unfold maxLen; omega)
    have HK2 : Hid ((if (numB 10 18 p && sameN (numI 10 18 p) ps) = true then (numI 10 18 p, true) else (0, false)) = (n, r)) := HCK.out
    have hln : ps.length ≤ 1073743872 := by have := HLN.out; simp only [List.length_cons] at this; omega
    have hcv : ps.length + 1 ≤ cv1 := by simpa using q1
    unfold maxLen at q2
    clear e hnil q1 q3 hc HBD HCK HLN
    have hlc : (p :: ps).length = ps.length + 1 := rfl
    rw [hlc]
    clear hlc
    go_wp2_with fail
    refine (HS.out p (List.mem_cons_self ..) _).mono ?_
    rintro e w2 ⟨rfl, rfl⟩
    generalize numI 10 18 p = f at *
    generalize numB 10 18 p = b at *
    rcases Nat.eq_zero_or_pos ps.length with h0 | hp
    · have he : ps = [] := List.eq_nil_of_length_eq_zero h0
      subst he
      clear h0 HC HS hc0
      cases b
      · have HK3 : Hid ((0, false) = (n, r)) := HK2.out
        clear HK2
        go_wp2
        all_goals
          refine wp_loop_rounds 1 ?_
          rw [rounds_succ]
          go_wp2
          go_ret2
          exact ⟨ret2_ib (congrArg Prod.fst HK3.out) (congrArg Prod.snd HK3.out), B1⟩
      · have HK3 : Hid ((f, true) = (n, r)) := HK2.out
        clear HK2
        go_wp2
        all_goals
          refine wp_loop_rounds 1 ?_
          rw [rounds_succ]
          go_wp2
          go_ret2
          exact ⟨ret2_ib (congrArg Prod.fst HK3.out) (congrArg Prod.snd HK3.out), B1⟩
    · have hcap : ¬ cv1 = 1 := by omega
      go_wp2_with fail
      go_loop [6, 26] (fun vr vi => ∃ k : Nat, k ≤ ps.length ∧ vi = .int .i64 k ∧ vr = .bool (b && sameN f (ps.take k))) (fun _ vi => ps.length - (intOf vi).toNat)
      case atStart => exact ⟨0, Nat.zero_le _, rfl, by simp [sameN]⟩
      case round =>
        obtain ⟨k, hk, rfl, rfl⟩ := hrel
        by_cases hlt : k < ps.length
        · have hc1 := HC.out k hlt
          have hsn : Hid ((b && sameN f (ps.take (k + 1))) = ((b && sameN f (ps.take k)) && (numB 10 18 ps[k] && decide (numI 10 18 ps[k] = f)))) := by rw [Hid, sameN_snoc hlt, Bool.and_assoc]
          have HX : Hid (∀ W, Calls Tryz.prog 156 #[.string ps[k]] W fun e w' => e = .returned (.tuple #[.int .i64 (numI 10 18 ps[k]), .bool (numB 10 18 ps[k])]) ∧ w' = W) := HS.out ps[k] (List.mem_cons_of_mem _ (List.getElem_mem hlt))
          generalize (b && sameN f (ps.take k)) = rr at *
          generalize numI 10 18 ps[k] = nx at *
          generalize numB 10 18 ps[k] = nb at *
          generalize ps[k] = x at *
          go_wp2_with fail
          refine (HX.out _).mono ?_
          rintro e w3 ⟨rfl, rfl⟩
          cases rr
          · have hs2 : Hid ((b && sameN f (ps.take (k + 1))) = false) := hsn.out
            clear hsn HX
            go_wp2
            go_round
            case rel => exact ⟨k + 1, by omega, by go_num, by rw [hs2.out]⟩
            case measure => simp [intOf]; omega
          · cases nb
            · have hs2 : Hid ((b && sameN f (ps.take (k + 1))) = false) := hsn.out
              clear hsn HX
              go_wp2
              go_round
              case rel => exact ⟨k + 1, by omega, by go_num, by rw [hs2.out]⟩
              case measure => simp [intOf]; omega
            · have hs2 : Hid ((b && sameN f (ps.take (k + 1))) = decide (nx = f)) := hsn.out
              clear hsn HX
              go_wp2
              go_round
              case rel => exact ⟨k + 1, by omega, by go_num, by rw [hs2.out, eq_dec]⟩
              case measure => simp [intOf]; omega
        · have hk' : k = ps.length := by omega
          subst hk'
          rw [List.take_length] at *
          clear hlt hk
          generalize (b && sameN f ps) = rr at *
          cases rr
          · have HK3 : Hid ((0, false) = (n, r)) := HK2.out
            clear HK2
            go_wp2
            go_ret2
            exact ⟨ret2_ib (congrArg Prod.fst HK3.out) (congrArg Prod.snd HK3.out), B1⟩
          · have HK3 : Hid ((f, true) = (n, r)) := HK2.out
            clear HK2
            go_wp2
            go_ret2
            exact ⟨ret2_ib (congrArg Prod.fst HK3.out) (congrArg Prod.snd HK3.out), B1⟩
end Go.Proofs.YtajfjjmabncldaaGreatDoor

/- Package frame: Request, Response and Closes. -/
namespace Go.Proofs.YtajfjjmabncldaaGreatDoor
open Go.ChangeShapes Go.WideShapes Go.ChangeAt Go.RowKit
set_option linter.unusedVariables false

theorem ret3_iii {x y z a b c : Int} (h1 : x = a) (h2 : y = b) (h3 : z = c) : Ending.returned (.tuple #[.int .i64 x, .int .i64 y, .int .i64 z]) = .returned (.tuple #[.int .i64 a, .int .i64 b, .int .i64 c]) := by rw [h1, h2, h3]
/-- told, of what the inner calls answer. -/
def toldP (te cl ch : Bool) (ln : Int × Bool) (minor : Int) : Int × Int × Int :=
  if (te && (cl || decide (minor = 0))) = true then (0, 0, 400)
  else if te = true then (if ch = true then (2, 0, 0) else (0, 0, 501))
  else if cl = false then (3, 0, 0)
  else if ln.2 = false then (0, 0, 400)
  else if 4096 < ln.1 then (0, 0, 413) else (1, ln.1, 0)
theorem toldF_eq (fs : Fs) (minor : Int) : toldF fs minor = toldP (thereF fs tTE) (thereF fs tCL) (chunkedF fs) (lengthF fs) minor := rfl

set_option maxHeartbeats 1000000 in
theorem told_any (fs : Fs) (a : Option Addr) (c : Nat) (minor : Int) (w : World) (hf : Fds w.heap.size w (.slice a fs.length c) fs) (hb : FBd 1048576 fs) (hl : fs.length ≤ 1024) (hM : MaxL w) :
    Calls Tryz.prog 84 #[.slice a fs.length c, .int .i64 minor] w fun e w' => e = .returned (.tuple #[.int .i64 (toldF fs minor).1, .int .i64 (toldF fs minor).2.1, .int .i64 (toldF fs minor).2.2]) ∧ Below w.heap.size w w' := by
  have H1 : Hid (Calls Tryz.prog 120 #[.slice a fs.length c, .string ⟨#[67, 111, 110, 116, 101, 110, 116, 45, 76, 101, 110, 103, 116, 104]⟩] w fun e w' => e = .returned (.bool (thereF fs tCL)) ∧ Below w.heap.size w w') := there_any fs a c tCL w hf hb (by decide) hl
  have H2 : Hid (∀ W, Below w.heap.size w W → Calls Tryz.prog 120 #[.slice a fs.length c, .string ⟨#[84, 114, 97, 110, 115, 102, 101, 114, 45, 69, 110, 99, 111, 100, 105, 110, 103]⟩] W fun e w' => e = .returned (.bool (thereF fs tTE)) ∧ Below W.heap.size W w') := fun W b => there_any fs a c tTE W (hf.over b) hb (by decide) hl
  have H3 : Hid (∀ W, Below w.heap.size w W → Calls Tryz.prog 121 #[.slice a fs.length c] W fun e w' => e = .returned (.bool (chunkedF fs)) ∧ Below W.heap.size W w') := fun W b => chunked_any fs a c W (hf.over b) hb hl (hM.below b)
  have H4 : Hid (∀ W, Below w.heap.size w W → Calls Tryz.prog 122 #[.slice a fs.length c] W fun e w' => e = .returned (.tuple #[.int .i64 (lengthF fs).1, .bool (lengthF fs).2]) ∧ Below W.heap.size W w') := fun W b => length_any fs a c W (hf.over b) hb hl (hM.below b)
  have hbd := lenL_bd (listF fs tCL)
  rw [toldF_eq]
  have hbd2 : 0 ≤ (lengthF fs).1 ∧ (lengthF fs).1 < 1000000000000000000 := hbd
  clear hf hb hl hM hbd
  generalize thereF fs tTE = te at *
  generalize thereF fs tCL = cl at *
  generalize chunkedF fs = ch at *
  generalize lengthF fs = ln at *
  obtain ⟨n, r⟩ := ln
  simp only at H4 hbd2
  obtain ⟨b1, b2⟩ := hbd2
  generalize hE : toldP te cl ch (n, r) minor = E
  have HE : Hid (toldP te cl ch (n, r) minor = E) := hE
  clear hE
  obtain ⟨E1, E2, E3⟩ := E
  cases te
  · cases cl
    · have HK : Hid ((3, 0, 0) = (E1, E2, E3)) := HE.out
      clear HE
      go_enter Tryz.func84, Tryz.ntmps84
      go_wp2_with fail
      refine H1.out.mono ?_
      rintro e w1 ⟨rfl, B1⟩
      go_wp2_with fail
      refine (H2.out _ B1).mono ?_
      rintro e w2 ⟨rfl, B2⟩
      go_wp2
      go_ret3
      exact ⟨ret3_iii (congrArg Prod.fst HK.out) (congrArg (·.2.1) HK.out) (congrArg (·.2.2) HK.out), B1.trans (B2.mono B1.size)⟩
    · cases r
      · have HK : Hid ((0, 0, 400) = (E1, E2, E3)) := HE.out
        clear HE
        go_enter Tryz.func84, Tryz.ntmps84
        go_wp2_with fail
        refine H1.out.mono ?_
        rintro e w1 ⟨rfl, B1⟩
        go_wp2_with fail
        refine (H2.out _ B1).mono ?_
        rintro e w2 ⟨rfl, B2⟩
        have D2 := B1.trans (B2.mono B1.size)
        go_wp2_with fail
        refine (H4.out _ D2).mono ?_
        rintro e w3 ⟨rfl, B3⟩
        go_wp2
        go_ret3
        exact ⟨ret3_iii (congrArg Prod.fst HK.out) (congrArg (·.2.1) HK.out) (congrArg (·.2.2) HK.out), D2.trans (B3.mono D2.size)⟩
      · by_cases hn : 4096 < n
        · have HK : Hid ((0, 0, 413) = (E1, E2, E3)) := by
            have k := HE.out
            unfold toldP at k
            simp only [Bool.false_and, Bool.false_eq_true, if_false, Bool.true_eq_false, if_pos hn] at k
            exact k
          clear HE
          go_enter Tryz.func84, Tryz.ntmps84
          go_wp2_with fail
          refine H1.out.mono ?_
          rintro e w1 ⟨rfl, B1⟩
          go_wp2_with fail
          refine (H2.out _ B1).mono ?_
          rintro e w2 ⟨rfl, B2⟩
          have D2 := B1.trans (B2.mono B1.size)
          go_wp2_with fail
          refine (H4.out _ D2).mono ?_
          rintro e w3 ⟨rfl, B3⟩
          go_wp2
          go_ret3
          exact ⟨ret3_iii (congrArg Prod.fst HK.out) (congrArg (·.2.1) HK.out) (congrArg (·.2.2) HK.out), D2.trans (B3.mono D2.size)⟩
        · have HK : Hid ((1, n, 0) = (E1, E2, E3)) := by
            have k := HE.out
            unfold toldP at k
            simp only [Bool.false_and, Bool.false_eq_true, if_false, Bool.true_eq_false, if_neg hn] at k
            exact k
          clear HE
          go_enter Tryz.func84, Tryz.ntmps84
          go_wp2_with fail
          refine H1.out.mono ?_
          rintro e w1 ⟨rfl, B1⟩
          go_wp2_with fail
          refine (H2.out _ B1).mono ?_
          rintro e w2 ⟨rfl, B2⟩
          have D2 := B1.trans (B2.mono B1.size)
          go_wp2_with fail
          refine (H4.out _ D2).mono ?_
          rintro e w3 ⟨rfl, B3⟩
          go_wp2
          go_ret3
          exact ⟨ret3_iii (congrArg Prod.fst HK.out) (congrArg (·.2.1) HK.out) (congrArg (·.2.2) HK.out), D2.trans (B3.mono D2.size)⟩
  · cases cl
    · by_cases hm : minor = 0
      · subst hm
        have HK : Hid ((0, 0, 400) = (E1, E2, E3)) := HE.out
        clear HE
        go_enter Tryz.func84, Tryz.ntmps84
        go_wp2_with fail
        refine H1.out.mono ?_
        rintro e w1 ⟨rfl, B1⟩
        go_wp2_with fail
        refine (H2.out _ B1).mono ?_
        rintro e w2 ⟨rfl, B2⟩
        go_wp2
        go_ret3
        exact ⟨ret3_iii (congrArg Prod.fst HK.out) (congrArg (·.2.1) HK.out) (congrArg (·.2.2) HK.out), B1.trans (B2.mono B1.size)⟩
      · have hm2 : (minor == 0) = false := by simpa using hm
        have hm3 : decide (minor = 0) = false := decide_eq_false hm
        have HE2 : Hid ((if ch = true then ((2 : Int), (0 : Int), (0 : Int)) else (0, 0, 501)) = (E1, E2, E3)) := by
          have k := HE.out
          unfold toldP at k
          rw [hm3] at k
          exact k
        clear HE hm hm3
        cases ch
        · have HK : Hid ((0, 0, 501) = (E1, E2, E3)) := HE2.out
          clear HE2
          go_enter Tryz.func84, Tryz.ntmps84
          go_wp2_with fail
          refine H1.out.mono ?_
          rintro e w1 ⟨rfl, B1⟩
          go_wp2_with fail
          refine (H2.out _ B1).mono ?_
          rintro e w2 ⟨rfl, B2⟩
          have D2 := B1.trans (B2.mono B1.size)
          go_wp2_with fail
          refine (H3.out _ D2).mono ?_
          rintro e w3 ⟨rfl, B3⟩
          go_wp2
          go_ret3
          exact ⟨ret3_iii (congrArg Prod.fst HK.out) (congrArg (·.2.1) HK.out) (congrArg (·.2.2) HK.out), D2.trans (B3.mono D2.size)⟩
        · have HK : Hid ((2, 0, 0) = (E1, E2, E3)) := HE2.out
          clear HE2
          go_enter Tryz.func84, Tryz.ntmps84
          go_wp2_with fail
          refine H1.out.mono ?_
          rintro e w1 ⟨rfl, B1⟩
          go_wp2_with fail
          refine (H2.out _ B1).mono ?_
          rintro e w2 ⟨rfl, B2⟩
          have D2 := B1.trans (B2.mono B1.size)
          go_wp2_with fail
          refine (H3.out _ D2).mono ?_
          rintro e w3 ⟨rfl, B3⟩
          go_wp2
          go_ret3
          exact ⟨ret3_iii (congrArg Prod.fst HK.out) (congrArg (·.2.1) HK.out) (congrArg (·.2.2) HK.out), D2.trans (B3.mono D2.size)⟩
    · have HK : Hid ((0, 0, 400) = (E1, E2, E3)) := HE.out
      clear HE
      go_enter Tryz.func84, Tryz.ntmps84
      go_wp2_with fail
      refine H1.out.mono ?_
      rintro e w1 ⟨rfl, B1⟩
      go_wp2_with fail
      refine (H2.out _ B1).mono ?_
      rintro e w2 ⟨rfl, B2⟩
      go_wp2
      go_ret3
      exact ⟨ret3_iii (congrArg Prod.fst HK.out) (congrArg (·.2.1) HK.out) (congrArg (·.2.2) HK.out), B1.trans (B2.mono B1.size)⟩

theorem ret3_ibi {x y : Int} {p q : Bool} {a b : Int} (h1 : x = y) (h2 : p = q) (h3 : a = b) : Ending.returned (.tuple #[.int .i64 x, .bool p, .int .i64 a]) = .returned (.tuple #[.int .i64 y, .bool q, .int .i64 b]) := by rw [h1, h2, h3]
theorem ret3_iib {x y : Int} {p q : Bool} {a b : Int} (h1 : x = y) (h3 : a = b) (h2 : p = q) : Ending.returned (.tuple #[.int .i64 x, .int .i64 a, .bool p]) = .returned (.tuple #[.int .i64 y, .int .i64 b, .bool q]) := by rw [h1, h2, h3]

set_option maxHeartbeats 1000000 in
theorem request_any (fs : Fs) (a : Option Addr) (c : Nat) (minor : Int) (w : World) (hf : Fds w.heap.size w (.slice a fs.length c) fs) (hb : FBd 1048576 fs) (hl : fs.length ≤ 1024) (hM : MaxL w) :
    Calls Tryz.prog 64 #[.slice a fs.length c, .int .i64 minor] w fun e w' => e = .returned (.tuple #[.int .i64 (reqF fs minor).1, .bool (reqF fs minor).2.1, .int .i64 (reqF fs minor).2.2]) ∧ Below w.heap.size w w' := by
  have H : Hid (Calls Tryz.prog 84 #[.slice a fs.length c, .int .i64 minor] w fun e w' => e = .returned (.tuple #[.int .i64 (toldF fs minor).1, .int .i64 (toldF fs minor).2.1, .int .i64 (toldF fs minor).2.2]) ∧ Below w.heap.size w w') := told_any fs a c minor w hf hb hl hM
  unfold reqF
  clear hf hb hl hM
  generalize toldF fs minor = E at *
  obtain ⟨E1, E2, E3⟩ := E
  go_enter Tryz.func64, Tryz.ntmps64
  go_wp2_with fail
  refine H.out.mono ?_
  rintro e w1 ⟨rfl, B1⟩
  go_wp2
  go_ret3
  exact ⟨ret3_ibi rfl (eq_dec _ _) rfl, B1⟩
end Go.Proofs.YtajfjjmabncldaaGreatDoor

/- Package frame: Response (split off FrC). -/
namespace Go.Proofs.YtajfjjmabncldaaGreatDoor
open Go.ChangeShapes Go.WideShapes Go.ChangeAt Go.RowKit
set_option linter.unusedVariables false

set_option maxHeartbeats 1000000 in
theorem bare_any (m : ByteArray) (code : Int) (w : World) : Calls Tryz.prog 83 #[.string m, .int .i64 code] w fun e w' => e = .returned (.bool (bareF m code)) ∧ w' = w := by
  have HQ : Hid ((m.toList == [72, 69, 65, 68]) = decide (m = ⟨#[72, 69, 65, 68]⟩)) := by
    rw [Hid, ByteArray.toList_eq]
    by_cases h : m = ⟨#[72, 69, 65, 68]⟩
    · rw [decide_eq_true h, h]; rfl
    · rw [decide_eq_false h]
      rw [beq_eq_false_iff_ne]
      intro e
      exact h (ByteArray.ext (Array.toList_inj.1 e))
  unfold bareF
  go_enter Tryz.func83, Tryz.ntmps83
  go_wp2
  all_goals
    go_ret
    refine ⟨ret_bool ?_, rfl⟩
    first
      | rfl
      | (rw [← HQ.out]; simp_all [eq_dec])

set_option maxHeartbeats 1000000 in
theorem resp_bare (m reason : ByteArray) (code minor : Int) (a b : Option Addr) (n c x y : Nat) (w : World) (h : bareF m code = true) :
    Calls Tryz.prog 49 #[.string m, .agg #[.int .i64 code, .string reason, .int .i64 minor, .slice a n c, .slice b x y]] w fun e w' => e = .returned (.tuple #[.int .i64 0, .int .i64 0, .bool true]) ∧ Below w.heap.size w w' := by
  have H : Hid (∀ W, Calls Tryz.prog 83 #[.string m, .int .i64 code] W fun e w' => e = .returned (.bool true) ∧ w' = W) := fun W => by have k := bare_any m code W; rw [h] at k; exact k
  clear h
  go_enter Tryz.func49, Tryz.ntmps49
  go_wp2_with fail
  refine (H.out _).mono ?_
  rintro e w1 ⟨rfl, rfl⟩
  go_wp2
  go_ret3
  exact ⟨rfl, (Below.refl _ _).alloc (Nat.le_refl _) _⟩

set_option maxHeartbeats 1000000 in
theorem resp_full (m reason : ByteArray) (code minor : Int) (fs : Fs) (a b : Option Addr) (c x y : Nat) (w : World) (h : bareF m code = false) (hf : Fds w.heap.size w (.slice a fs.length c) fs) (hb : FBd 1048576 fs) (hl : fs.length ≤ 1024) (hM : MaxL w) :
    Calls Tryz.prog 49 #[.string m, .agg #[.int .i64 code, .string reason, .int .i64 minor, .slice a fs.length c, .slice b x y]] w fun e w' => e = .returned (.tuple #[.int .i64 (toldF fs minor).1, .int .i64 (toldF fs minor).2.1, .bool (decide ((toldF fs minor).2.2 = 0))]) ∧ Below w.heap.size w w' := by
  have H : Hid (∀ W, Calls Tryz.prog 83 #[.string m, .int .i64 code] W fun e w' => e = .returned (.bool false) ∧ w' = W) := fun W => by have k := bare_any m code W; rw [h] at k; exact k
  have C1 : Below w.heap.size w (w.alloc (.cells #[.int .i64 code, .string reason, .int .i64 minor, .slice a fs.length c, .slice b x y] 40)) := (Below.refl _ _).alloc (Nat.le_refl _) _
  have HT : Hid (∀ W, Below w.heap.size w W → Calls Tryz.prog 84 #[.slice a fs.length c, .int .i64 minor] W fun e w' => e = .returned (.tuple #[.int .i64 (toldF fs minor).1, .int .i64 (toldF fs minor).2.1, .int .i64 (toldF fs minor).2.2]) ∧ Below W.heap.size W w') := fun W b => told_any fs a c minor W (hf.over b) hb hl (hM.below b)
  clear h hf hb hl hM
  generalize toldF fs minor = E at *
  obtain ⟨E1, E2, E3⟩ := E
  go_enter Tryz.func49, Tryz.ntmps49
  go_wp2_with fail
  refine (H.out _).mono ?_
  rintro e w1 ⟨rfl, rfl⟩
  go_wp2_with fail
  refine (HT.out _ C1).mono ?_
  rintro e w2 ⟨rfl, B2⟩
  go_wp2
  go_ret3
  exact ⟨ret3_iib rfl rfl (eq_dec _ _), C1.trans (B2.mono C1.size)⟩
theorem response_any (m reason : ByteArray) (code minor : Int) (fs : Fs) (a b : Option Addr) (c x y : Nat) (w : World) (hf : Fds w.heap.size w (.slice a fs.length c) fs) (hb : FBd 1048576 fs) (hl : fs.length ≤ 1024) (hM : MaxL w) :
    Calls Tryz.prog 49 #[.string m, .agg #[.int .i64 code, .string reason, .int .i64 minor, .slice a fs.length c, .slice b x y]] w fun e w' => e = .returned (.tuple #[.int .i64 (respF m code minor fs).1, .int .i64 (respF m code minor fs).2.1, .bool (respF m code minor fs).2.2]) ∧ Below w.heap.size w w' := by
  unfold respF
  cases h : bareF m code
  · rw [if_neg (by decide)]
    exact resp_full m reason code minor fs a b c x y w h hf hb hl hM
  · rw [if_pos rfl]
    exact resp_bare m reason code minor a b fs.length c x y w h
end Go.Proofs.YtajfjjmabncldaaGreatDoor

/- The reference's Same: equal fields are the same. -/
namespace Go.Proofs.YtajfjjmabncldaaGreatDoor
open Go.ChangeShapes Go.WideShapes Go.ChangeAt Go.RowKit
set_option linter.unusedVariables false

set_option maxRecDepth 100000 in
set_option maxHeartbeats 1000000 in
theorem rsame_eq (a : Fs) (A B : Option Addr) (c d : Nat) (w : World) {X Y : Nat} (ha : Fds X w (.slice A a.length c) a) (hb : Fds Y w (.slice B a.length d) a) :
    Calls Tryz.prog 34 #[.slice A a.length c, .slice B a.length d] w fun e w' => e = .returned (.bool true) ∧ Below w.heap.size w w' := by
  have hla := ha.len
  unfold maxLen at hla
  rcases Nat.eq_zero_or_pos a.length with h0 | hp
  · have ea : a = [] := List.eq_nil_of_length_eq_zero h0
    subst ea
    clear ha hb hla h0
    go_enter Tryz.func34, Tryz.ntmps34
    go_wp2_with fail
    refine wp_loop_rounds 1 ?_
    rw [rounds_succ]
    go_wp2
    go_ret
    exact ⟨rfl, Below.refl _ _⟩
  · obtain ⟨A', c', e, _, _, _, h3⟩ := ha
    obtain ⟨rfl, _, rfl⟩ := slice_inj e
    obtain ⟨g1, o1, rfl, _, k1⟩ := h3 hp
    obtain ⟨B', d', e', _, _, _, h4⟩ := hb
    obtain ⟨rfl, _, rfl⟩ := slice_inj e'
    obtain ⟨g2, o2, rfl, _, k2⟩ := h4 hp
    have H1 : Hid (∀ (j : Nat) (hj : j < a.length), w.cell? ⟨g1, o1 + j * 2, none⟩ = some (.string a[j].1) ∧ w.cell? ⟨g1, o1 + j * 2 + 1, none⟩ = some (.string a[j].2)) := k1
    have H2 : Hid (∀ (j : Nat) (hj : j < a.length), w.cell? ⟨g2, o2 + j * 2, none⟩ = some (.string a[j].1) ∧ w.cell? ⟨g2, o2 + j * 2 + 1, none⟩ = some (.string a[j].2)) := k2
    have hln : a.length ≤ 9223372036854775807 := by omega
    clear k1 k2 e e' h3 h4 hla
    go_enter Tryz.func34, Tryz.ntmps34
    go_wp2_with fail
    go_loopw [5] (fun vi wr => ∃ k d : Nat, k ≤ a.length ∧ vi = .int .i64 k ∧ wr = w.drewN d) (fun vi _ => a.length - (intOf vi).toNat)
    case atStart => exact ⟨0, 0, Nat.zero_le _, rfl, by simp [World.drewN_zero]⟩
    case round =>
      obtain ⟨k, d, hk, rfl, rfl⟩ := hrel
      by_cases hlt : k < a.length
      · obtain ⟨p1, p2⟩ := H1.out k hlt
        obtain ⟨q1, q2⟩ := H2.out k hlt
        generalize a[k] = f at *
        obtain ⟨fn, fv⟩ := f
        simp only at p1 p2 q1 q2
        go_wp2
        go_quiet (fail)
        go_wp2
        go_roundw
        case rel => exact ⟨k + 1, _, by omega, by go_num, rfl⟩
        case measure => simp [intOf]; omega
      · go_wp2
        go_ret
        exact ⟨rfl, by refine ⟨?_, ?_, ?_, ?_, ?_⟩ <;> simp [World.drewN]⟩
end Go.Proofs.YtajfjjmabncldaaGreatDoor

/- Right and Without: what each answers of fields, plain. -/
namespace Go.Proofs.YtajfjjmabncldaaGreatDoor
open Go.ChangeShapes Go.WideShapes Go.ChangeAt Go.RowKit
set_option linter.unusedVariables false

def wrF (f : ByteArray × ByteArray) : Bool := !okF f.1 f.2
def anyW (fs : Fs) : Bool := fs.any wrF
def rightF (fs : Fs) : Bool := decide (fs.length ≤ 40) && !anyW fs
def withoutF (fs : Fs) (names : List ByteArray) : Fs := fs.filter fun f => !anyT names f.1
theorem withoutF_snoc (fs : Fs) (f : ByteArray × ByteArray) (ns : List ByteArray) : withoutF (fs ++ [f]) ns = withoutF fs ns ++ (if anyT ns f.1 = true then [] else [f]) := by
  unfold withoutF
  rw [List.filter_append]
  congr 1
  cases h : anyT ns f.1 <;> simp [h]
theorem withoutF_len (fs : Fs) (ns : List ByteArray) : (withoutF fs ns).length ≤ fs.length := List.length_filter_le _ _
theorem withoutF_bd {N : Nat} {fs : Fs} {ns : List ByteArray} (h : FBd N fs) : FBd N (withoutF fs ns) := fun f hf => h f (List.mem_filter.1 hf).1
theorem anyW_at {fs : Fs} (k : Nat) (h : k < fs.length) (hs : wrF fs[k] = true) : anyW fs = true := by
  unfold anyW
  rw [List.any_eq_true]
  exact ⟨fs[k], List.getElem_mem h, hs⟩
theorem anyW_snoc {fs : Fs} {k : Nat} (h : k < fs.length) (h0 : anyW (fs.take k) = false) (hs : wrF fs[k] = false) : anyW (fs.take (k + 1)) = false := by
  rw [List.take_succ_eq_append_getElem h]
  unfold anyW at *
  rw [List.any_append, h0]
  simp [hs]

end Go.Proofs.YtajfjjmabncldaaGreatDoor

/- The reference's Fold. -/
namespace Go.Proofs.YtajfjjmabncldaaGreatDoor
open Go.RowKit
set_option linter.unusedVariables false

theorem info5 : (Tryz.prog.info? 5).map (fun i => (i.zero, i.size, i.bytes)) = some (some (.int .u8 0), 1, 1) := by kernel_rfl
theorem owns_bytes {w : World} {base g cv : Nat} {l : List UInt8} (h : w.ownsRow base 5 1 (.slice (some ⟨g, 0, none⟩) l.length cv) l.length (l.map bvT)) :
    (convert 23 9 (.slice (some ⟨g, 0, none⟩) l.length cv)).run Tryz.prog w = .ok (.string ⟨l.toArray⟩) w :=
  run_convert_bytes_back (P := Tryz.prog) w 23 9 5 ⟨g, 0, none⟩ cv l Tryz.underlying23 Tryz.underlying5 Tryz.underlying9 (fun j hj => by
    rw [Lib.add_plain, Nat.zero_add]
    have k := h.cellAt j (by omega)
    rw [k, List.getElem?_map, List.getElem?_eq_getElem hj]; rfl)
theorem lit0 (w : World) (e : TypeId) : (w.alloc (.cells #[] e)).ownsRow w.heap.size e 1 (.slice (some ⟨w.heap.size, 0, none⟩) 0 0) 0 [] :=
  ⟨rfl, .inr ⟨w.heap.size, 0, #[], rfl, Nat.le_refl _, tblk_new _ _, Nat.le_refl _, by decide, rfl, rfl⟩⟩
theorem foldL_snoc (l : List UInt8) (k : Nat) (h : k < l.length) : (foldL (l.take (k + 1))).map bvT = (foldL (l.take k)).map bvT ++ [bvT (foldB l[k])] := by
  unfold foldL
  rw [List.take_succ_eq_append_getElem h, List.map_append, List.map_append]; rfl
theorem foldL_length (l : List UInt8) (k : Nat) (h : k ≤ l.length) : (foldL (l.take k)).length = k := by simp [foldL]; omega

set_option maxRecDepth 100000 in
set_option maxHeartbeats 4000000 in
theorem rfold_any (s : ByteArray) (w : World) (hs : s.size ≤ 4294967281) : Calls Tryz.prog 23 #[.string s] w fun e w' => e = .returned (.string (foldS s)) ∧ Below w.heap.size w w' := by
  obtain ⟨i0, hi, hz0, hz1, hz2⟩ := info_parts info5
  have hlen : s.data.toList.length = s.size := rfl
  have HL : Hid (s.data.toList.length = s.size) := hlen
  clear hlen
  go_enter Tryz.func23, Tryz.ntmps23
  go_wp2_with fail
  go_loopw [3, 4] (fun v vi wr => ∃ k g cv : Nat, k ≤ s.size ∧ vi = .int .i64 k ∧ v = .slice (some ⟨g, 0, none⟩) k cv ∧ Hid (wr.ownsRow w.heap.size 5 1 v k ((foldL (s.data.toList.take k)).map bvT)) ∧ Below w.heap.size w wr) (fun _ vi _ => s.size - (intOf vi).toNat)
  case atStart => exact ⟨0, w.heap.size, 0, Nat.zero_le _, rfl, rfl, lit0 w 5, (Below.refl _ _).alloc (Nat.le_refl _) _⟩
  case round =>
    obtain ⟨k, g, cv, hk, rfl, rfl, hown, hB⟩ := hrel
    by_cases hlt : k < s.size
    · have hsn : Hid ((foldL (s.data.toList.take (k + 1))).map bvT = (foldL (s.data.toList.take k)).map bvT ++ [bvT (foldB s[k])]) := foldL_snoc _ k hlt
      have bd := s[k].toNat_lt
      by_cases h1 : 65 ≤ (s[k].toNat : Int)
      · by_cases h2 : (s[k].toNat : Int) ≤ 90
        · rw [foldB_yes h1 h2] at hsn
          generalize (foldL (s.data.toList.take k)).map bvT = K at *
          go_wp2_with (first
            | (at_builtin; refine wpList_append_own _ rfl _ _ 23 rfl w.heap.size 5 i0 (.int .u8 0) 1 1 Tryz.underlying23 hi hz0 hz1 hz2 rfl (by decide) _ _ _ rfl (hown.out.alloc _) ⟨wr.heap.size, 0, none⟩ 1 1 [.int .u8 ((s[k].toNat : Int) + 32)] rfl rfl (cell_one_new _ _ _) (fun x hx => by simp at hx; subst hx; rfl) (by unfold maxLen; omega) (by omega) (by have := hB.size; simp; omega) ?_; intro v' w3 hown' hgrow3 hnil3))
          go_roundw
          case rel =>
            obtain ⟨g3, cap3, hv3⟩ : ∃ g3 cap3, v' = .slice (some ⟨g3, 0, none⟩) (k + 1) cap3 := by
              rcases hown'.2 with ⟨_, h⟩ | ⟨g3, cap3, _, h, _⟩
              · omega
              · exact ⟨g3, cap3, h⟩
            have hb3 : Below w.heap.size wr w3 := ((Below.refl _ _).alloc hB.size _).grown hgrow3 (by have := hB.size; simp; omega) (fun q hq => (hown.out.lt q hq).1)
            exact ⟨k + 1, g3, cap3, by omega, by go_num, hv3, by rw [hsn.out]; exact hown', hB.trans hb3⟩
          case measure => simp [intOf]; omega
        · have hno : ¬ (65 ≤ (s[k].toNat : Int) ∧ (s[k].toNat : Int) ≤ 90) := fun h => h2 h.2
          rw [foldB_no hno] at hsn
          clear hno
          generalize (foldL (s.data.toList.take k)).map bvT = K at *
          go_wp2_with (first
            | (at_builtin; refine wpList_append_own _ rfl _ _ 23 rfl w.heap.size 5 i0 (.int .u8 0) 1 1 Tryz.underlying23 hi hz0 hz1 hz2 rfl (by decide) _ _ _ rfl (hown.out.alloc _) ⟨wr.heap.size, 0, none⟩ 1 1 [.int .u8 (s[k].toNat : Int)] rfl rfl (cell_one_new _ _ _) (fun x hx => by simp at hx; subst hx; rfl) (by unfold maxLen; omega) (by omega) (by have := hB.size; simp; omega) ?_; intro v' w3 hown' hgrow3 hnil3))
          go_roundw
          case rel =>
            obtain ⟨g3, cap3, hv3⟩ : ∃ g3 cap3, v' = .slice (some ⟨g3, 0, none⟩) (k + 1) cap3 := by
              rcases hown'.2 with ⟨_, h⟩ | ⟨g3, cap3, _, h, _⟩
              · omega
              · exact ⟨g3, cap3, h⟩
            have hb3 : Below w.heap.size wr w3 := ((Below.refl _ _).alloc hB.size _).grown hgrow3 (by have := hB.size; simp; omega) (fun q hq => (hown.out.lt q hq).1)
            exact ⟨k + 1, g3, cap3, by omega, by go_num, hv3, by rw [hsn.out]; exact hown', hB.trans hb3⟩
          case measure => simp [intOf]; omega
      · have hno : ¬ (65 ≤ (s[k].toNat : Int) ∧ (s[k].toNat : Int) ≤ 90) := fun h => h1 h.1
        rw [foldB_no hno] at hsn
        clear hno
        generalize (foldL (s.data.toList.take k)).map bvT = K at *
        go_wp2_with (first
          | (at_builtin; refine wpList_append_own _ rfl _ _ 23 rfl w.heap.size 5 i0 (.int .u8 0) 1 1 Tryz.underlying23 hi hz0 hz1 hz2 rfl (by decide) _ _ _ rfl (hown.out.alloc _) ⟨wr.heap.size, 0, none⟩ 1 1 [.int .u8 (s[k].toNat : Int)] rfl rfl (cell_one_new _ _ _) (fun x hx => by simp at hx; subst hx; rfl) (by unfold maxLen; omega) (by omega) (by have := hB.size; simp; omega) ?_; intro v' w3 hown' hgrow3 hnil3))
        go_roundw
        case rel =>
          obtain ⟨g3, cap3, hv3⟩ : ∃ g3 cap3, v' = .slice (some ⟨g3, 0, none⟩) (k + 1) cap3 := by
            rcases hown'.2 with ⟨_, h⟩ | ⟨g3, cap3, _, h, _⟩
            · omega
            · exact ⟨g3, cap3, h⟩
          have hb3 : Below w.heap.size wr w3 := ((Below.refl _ _).alloc hB.size _).grown hgrow3 (by have := hB.size; simp; omega) (fun q hq => (hown.out.lt q hq).1)
          exact ⟨k + 1, g3, cap3, by omega, by go_num, hv3, by rw [hsn.out]; exact hown', hB.trans hb3⟩
        case measure => simp [intOf]; omega
    · have hke : k = s.size := by omega
      subst hke
      have hcv := owns_bytes (l := foldL s.data.toList) (w := wr) (base := w.heap.size) (g := g) (cv := cv) (by
        have h := hown.out
        rw [← HL.out, List.take_length] at h
        unfold foldL at h ⊢
        rw [List.length_map]
        exact h)
      have hll : (foldL s.data.toList).length = s.size := by unfold foldL; rw [List.length_map]; exact HL.out
      rw [hll] at hcv
      clear hown hll
      go_wp2
      go_ret
      exact ⟨rfl, hB⟩

end Go.Proofs.YtajfjjmabncldaaGreatDoor

/- The reference's Trim. -/
namespace Go.Proofs.YtajfjjmabncldaaGreatDoor
open Go.RowKit
set_option linter.unusedVariables false

theorem ret_bT {x y : Bool} (h : x = y) : Ending.returned (.bool x) = .returned (.bool y) := by rw [h]
theorem ret_sT {x y : ByteArray} (h : x = y) : Ending.returned (.string x) = .returned (.string y) := by rw [h]
def szOf (v : Value) : Nat := match v with | .string x => x.size | _ => 0
theorem blk_eq (b : UInt8) : blk b = (decide ((b.toNat : Int) = 32) || decide ((b.toNat : Int) = 9)) := by
  have h : ∀ n : Nat, n < 256 → blk (UInt8.ofNat n) = (decide (((UInt8.ofNat n).toNat : Int) = 32) || decide (((UInt8.ofNat n).toNat : Int) = 9)) := by decide +kernel
  have k := h b.toNat b.toNat_lt
  rwa [UInt8.ofNat_toNat] at k
theorem blank_any (b : UInt8) (w : World) : Calls Tryz.prog 134 #[.int .u8 (b.toNat : Int)] w fun e w' => e = .returned (.bool (blk b)) ∧ w' = w := by
  have hb := blk_eq b
  have hlt := b.toNat_lt
  by_cases h1 : (b.toNat : Int) = 32
  · have HB : Hid (true = blk b) := by rw [Hid, hb]; simp [h1]
    clear hb
    go_enter Tryz.func134, Tryz.ntmps134
    go_wp2
    go_ret
    exact ⟨ret_bT HB.out, rfl⟩
  · by_cases h2 : (b.toNat : Int) = 9
    · have HB : Hid (true = blk b) := by rw [Hid, hb]; simp [h2]
      have n1 : ((b.toNat : Int) == 32) = false := beq_eq_false_iff_ne.2 h1
      clear hb
      go_enter Tryz.func134, Tryz.ntmps134
      go_wp2
      go_ret
      exact ⟨ret_bT HB.out, rfl⟩
    · have HB : Hid (false = blk b) := by rw [Hid, hb, decide_eq_false h1, decide_eq_false h2]; rfl
      have n1 : ((b.toNat : Int) == 32) = false := beq_eq_false_iff_ne.2 h1
      have n2 : ((b.toNat : Int) == 9) = false := beq_eq_false_iff_ne.2 h2
      clear hb
      go_enter Tryz.func134, Tryz.ntmps134
      go_wp2
      go_ret
      exact ⟨ret_bT HB.out, rfl⟩

/-- What is left of a text whose first blanks were cut; whose last blanks were cut too. -/
def Lft (s x : ByteArray) : Prop := ∃ a : List UInt8, (∀ b ∈ a, blk b = true) ∧ s.data.toList = a ++ x.data.toList
def Mid (s y : ByteArray) : Prop := ∃ a q : List UInt8, (∀ b ∈ a, blk b = true) ∧ (∀ b ∈ q, blk b = true) ∧ s.data.toList = a ++ y.data.toList ++ q ∧ NF y.data.toList
theorem ext_data (x : ByteArray) (i j : Nat) : (x.extract i j).data.toList = (x.data.toList.take j).drop i := by
  rw [Lib.extract_data, List.drop_take]
theorem Lft.mid {s x : ByteArray} (h : Lft s x) (hf : NF x.data.toList) : Mid s x := by
  obtain ⟨a, ha, e⟩ := h
  exact ⟨a, [], ha, (fun _ h => by cases h), by rw [List.append_nil]; exact e, hf⟩
theorem first_t {x : ByteArray} (h : 0 < x.size) : x.data.toList = x[0] :: x.data.toList.drop 1 := by
  have h' : 0 < x.data.toList.length := h
  have e := List.drop_eq_getElem_cons h'
  rw [List.drop_zero] at e
  exact e
theorem last_t {y : ByteArray} {n : Nat} (hn : y.size = n + 1) : y.data.toList.getLast? = some (y[n]'(by omega)) := by
  have hl : y.data.toList.length = n + 1 := hn
  rw [List.getLast?_eq_getElem?, hl, Nat.add_sub_cancel, List.getElem?_eq_getElem (by omega)]
  rfl
theorem take_t {y : ByteArray} {n : Nat} (hn : y.size = n + 1) : y.data.toList = y.data.toList.take n ++ [y[n]'(by omega)] := by
  have hl : y.data.toList.length = n + 1 := hn
  have e := List.take_succ_eq_append_getElem (l := y.data.toList) (i := n) (by omega)
  rw [List.take_of_length_le (by omega)] at e
  exact e
theorem Lft.cut {s x : ByteArray} (h : Lft s x) (hp : 0 < x.size) (hb : blk x[0] = true) : Lft s (x.extract 1 x.size) := by
  obtain ⟨a, ha, e⟩ := h
  refine ⟨a ++ [x[0]], fun b hm => ?_, ?_⟩
  · rcases List.mem_append.1 hm with hm | hm
    · exact ha b hm
    · rw [List.mem_singleton.1 hm]; exact hb
  · rw [ext_data, List.take_of_length_le (show x.data.toList.length ≤ x.size from Nat.le_refl _), e, List.append_assoc, List.singleton_append, ← first_t hp]
theorem Mid.cut {s y : ByteArray} {n : Nat} (h : Mid s y) (hn : y.size = n + 1) (hb : blk (y[n]'(by omega)) = true) : Mid s (y.extract 0 n) := by
  obtain ⟨a, q, ha, hq, e, hf⟩ := h
  refine ⟨a, (y[n]'(by omega)) :: q, ha, fun b hm => ?_, ?_, ?_⟩
  · cases hm with
    | head => exact hb
    | tail _ hm => exact hq b hm
  · rw [ext_data, List.drop_zero, e]
    conv => lhs; rw [take_t hn]
    simp
  · rw [ext_data, List.drop_zero]
    intro b hb'
    refine hf b ?_
    rw [take_t hn]
    cases hq2 : y.data.toList.take n with
    | nil => rw [hq2] at hb'; simp at hb'
    | cons c r => rw [hq2] at hb'; exact hb'
theorem Mid.fin {s y : ByteArray} (h : Mid s y) (hl : NL y.data.toList) : y = trimT s := by
  obtain ⟨a, q, ha, hq, e, hf⟩ := h
  refine bytes_eq ?_
  unfold trimT
  rw [e]
  exact (trim_around a _ q ha hq hf hl).symm

set_option maxRecDepth 100000 in
set_option maxHeartbeats 4000000 in
theorem rtrim_any (s : ByteArray) (w : World) (hs : s.size ≤ 140737488355328) : Calls Tryz.prog 101 #[.string s] w fun e w' => e = .returned (.string (trimT s)) ∧ w' = w := by
  go_enter Tryz.func101, Tryz.ntmps101
  go_wp2_with fail
  go_loopw [0] (fun v wr => ∃ x : ByteArray, v = .string x ∧ Hid (Lft s x) ∧ x.size ≤ s.size ∧ Hid (wr = w)) (fun v _ => szOf v)
  case atStart => exact ⟨s, rfl, ⟨[], (fun _ h => by cases h), rfl⟩, Nat.le_refl _, rfl⟩
  case round =>
    obtain ⟨x, rfl, hl, hxs, hB⟩ := hrel
    by_cases hz : x.size = 0
    · have h0 : ¬ (0 : Int) < (x.size : Int) := by omega
      have HM : Hid (Mid s x) := hl.out.mid (fun b hb => by rw [empty_t hz] at hb; cases hb)
      clear hz hl
      go_wp2_with fail
      clear h0
      go_loopw [0] (fun v wr => ∃ y : ByteArray, v = .string y ∧ Hid (Mid s y) ∧ y.size ≤ s.size ∧ Hid (wr = w)) (fun v _ => szOf v)
      case atStart => exact ⟨x, rfl, HM, hxs, hB⟩
      case round =>
        obtain ⟨y, rfl, hmid, hys, hB2⟩ := hrel
        clear hB HM
        by_cases hz2 : y.size = 0
        · have HE : Hid (y = trimT s) := hmid.out.fin (fun b hb => by rw [empty_t hz2] at hb; cases hb)
          have h0 : ¬ (0 : Int) < (y.size : Int) := by omega
          clear hz2
          go_wp2
          go_ret
          exact ⟨ret_sT HE.out, hB2.out⟩
        · obtain ⟨n, hn⟩ : ∃ n, y.size = n + 1 := ⟨y.size - 1, by omega⟩
          have h0 : (0 : Int) < (y.size : Int) := by omega
          have hi : (y.size : Int) - 1 = (n : Int) := by omega
          have hlt : n < y.size := by omega
          clear hz2
          go_wp2_with fail
          refine (blank_any y[n] _).mono ?_
          rintro e w3 ⟨rfl, rfl⟩
          by_cases hb : blk y[n] = true
          · have HM2 : Hid (Mid s (y.extract 0 n)) := hmid.out.cut hn hb
            have hsz2 : (y.extract 0 n).size = n := by rw [ByteArray.size_extract]; omega
            go_wp2
            go_roundw
            case rel => exact ⟨_, rfl, HM2, by omega, hB2⟩
            case measure => simp only [szOf]; omega
          · have HE : Hid (y = trimT s) := hmid.out.fin (fun b hb' => by
              rw [last_t hn] at hb'
              rw [← Option.some.inj hb']; simpa using hb)
            have hb0 : blk y[n] = false := by simpa using hb
            go_wp2
            go_ret
            exact ⟨ret_sT HE.out, hB2.out⟩
    · have h0 : (0 : Int) < (x.size : Int) := by omega
      have hp : 0 < x.size := by omega
      clear hz
      go_wp2_with fail
      refine (blank_any x[0] _).mono ?_
      rintro e w2 ⟨rfl, rfl⟩
      by_cases hb : blk x[0] = true
      · have HM2 : Hid (Lft s (x.extract 1 x.size)) := hl.out.cut hp hb
        have hsz2 : (x.extract 1 x.size).size = x.size - 1 := by rw [ByteArray.size_extract]; omega
        go_wp2
        go_roundw
        case rel => exact ⟨_, rfl, HM2, by omega, hB⟩
        case measure => simp only [szOf]; omega
      · have HM : Hid (Mid s x) := hl.out.mid (fun b hb' => by
          rw [first_t hp] at hb'
          rw [← Option.some.inj hb']; simpa using hb)
        have hb0 : blk x[0] = false := by simpa using hb
        clear hl hb
        go_wp2_with fail
        clear h0 hb0
        go_loopw [0] (fun v wr => ∃ y : ByteArray, v = .string y ∧ Hid (Mid s y) ∧ y.size ≤ s.size ∧ Hid (wr = w)) (fun v _ => szOf v)
        case atStart => exact ⟨x, rfl, HM, hxs, hB⟩
        case round =>
          obtain ⟨y, rfl, hmid, hys, hB2⟩ := hrel
          clear hB HM
          by_cases hz2 : y.size = 0
          · have HE : Hid (y = trimT s) := hmid.out.fin (fun b hb => by rw [empty_t hz2] at hb; cases hb)
            have h0 : ¬ (0 : Int) < (y.size : Int) := by omega
            clear hz2
            go_wp2
            go_ret
            exact ⟨ret_sT HE.out, hB2.out⟩
          · obtain ⟨n, hn⟩ : ∃ n, y.size = n + 1 := ⟨y.size - 1, by omega⟩
            have h0 : (0 : Int) < (y.size : Int) := by omega
            have hi : (y.size : Int) - 1 = (n : Int) := by omega
            have hlt : n < y.size := by omega
            clear hz2
            go_wp2_with fail
            refine (blank_any y[n] _).mono ?_
            rintro e w3 ⟨rfl, rfl⟩
            by_cases hb : blk y[n] = true
            · have HM2 : Hid (Mid s (y.extract 0 n)) := hmid.out.cut hn hb
              have hsz2 : (y.extract 0 n).size = n := by rw [ByteArray.size_extract]; omega
              go_wp2
              go_roundw
              case rel => exact ⟨_, rfl, HM2, by omega, hB2⟩
              case measure => simp only [szOf]; omega
            · have HE : Hid (y = trimT s) := hmid.out.fin (fun b hb' => by
                rw [last_t hn] at hb'
                rw [← Option.some.inj hb']; simpa using hb)
              have hb0 : blk y[n] = false := by simpa using hb
              go_wp2
              go_ret
              exact ⟨ret_sT HE.out, hB2.out⟩
end Go.Proofs.YtajfjjmabncldaaGreatDoor

/- The reference's Split. -/
namespace Go.Proofs.YtajfjjmabncldaaGreatDoor
open Go.RowKit
set_option linter.unusedVariables false

set_option maxRecDepth 100000 in
set_option maxHeartbeats 4000000 in
theorem rsplit_any (s : ByteArray) (w : World) (hs : s.size ≤ 4294967281) :
    Calls Tryz.prog 60 #[.string s] w fun e w' => ∃ ao cv, e = .returned (.slice ao (keepT (pieces s)).length cv) ∧ w'.ownsRow w.heap.size 9 1 (.slice ao (keepT (pieces s)).length cv) (keepT (pieces s)).length ((keepT (pieces s)).map Value.string) ∧ Below w.heap.size w w' := by
  obtain ⟨i0, hi, hz0, hz1, hz2⟩ := info_parts info9
  go_enter Tryz.func60, Tryz.ntmps60
  go_wp2_with fail
  go_loopw [3, 4, 5] (fun v vf vi wr => ∃ (k f : Nat) (ps : List ByteArray) (ao : Option Addr) (cv : Nat), k ≤ s.size + 1 ∧ f ≤ k ∧ vi = .int .i64 k ∧ vf = .int .i64 f ∧ v = .slice ao (keepT ps).length cv ∧ (keepT ps).length ≤ k ∧ Hid (wr.ownsRow w.heap.size 9 1 v (keepT ps).length ((keepT ps).map Value.string)) ∧ Hid (k ≤ s.size → Scan s ps f k) ∧ Hid (k = s.size + 1 → ps = pieces s) ∧ Below w.heap.size w wr) (fun _ _ vi _ => s.size + 1 - (intOf vi).toNat)
  case atStart => exact ⟨0, 0, [], some ⟨w.heap.size, 0, none⟩, 0, Nat.zero_le _, Nat.le_refl _, rfl, rfl, rfl, Nat.le_refl _, lit0 w 9, fun _ => Scan.start s, (fun h => by omega), (Below.refl _ _).alloc (Nat.le_refl _) _⟩
  case round =>
    obtain ⟨k, f, ps, ao, cv, hk, hf, rfl, rfl, rfl, hkl, hown, hsc, hfi, hB⟩ := hrel
    by_cases hle : (k : Int) ≤ (s.size : Int)
    · have hex : (s.extract f k).size ≤ 140737488355328 := by rw [ByteArray.size_extract]; omega
      have HEX : Hid ((s.extract f k).size ≤ 140737488355328) := hex
      have hsn : Hid (keepT (ps ++ [s.extract f k]) = keepT ps ++ (if (trimT (s.extract f k)).size = 0 then [] else [trimT (s.extract f k)])) := keepT_snoc _ _
      clear hex
      by_cases hend : k = s.size
      · subst hend
        have HC : Hid (s.size + 1 ≤ s.size → Scan s (ps ++ [s.extract f s.size]) (s.size + 1) (s.size + 1)) := fun h => by omega
        have HF : Hid (ps ++ [s.extract f s.size] = pieces s) := by
          have h := hsc.out (by omega)
          exact h.fin
        go_wp2_with fail
        refine (rtrim_any (s.extract f s.size) _ HEX.out).mono ?_
        rintro e w2 ⟨rfl, hw2⟩
        have B2 : Below wr.heap.size wr w2 := by rw [hw2]; exact Below.refl _ _
        clear hw2
        have hown2 : Hid (w2.ownsRow w.heap.size 9 1 (.slice ao (keepT ps).length cv) (keepT ps).length ((keepT ps).map Value.string)) := owns_below hown.out B2
        have hB2 := hB.trans (B2.mono hB.size)
        clear hown B2 HEX hsc hfi
        generalize ps ++ [s.extract f s.size] = ps2 at *
        generalize trimT (s.extract f s.size) = x at *
        by_cases hz : x.size = 0
        · have hsn2 : Hid (keepT ps2 = keepT ps) := by rw [Hid, hsn.out, if_pos hz, List.append_nil]
          have he := empty_t hz
          clear hsn
          subst he
          go_wp2
          go_roundw
          case rel => exact ⟨s.size + 1, s.size + 1, ps2, ao, cv, by omega, by omega, by go_num, by go_num, by rw [hsn2.out], by rw [hsn2.out]; omega, by rw [hsn2.out]; exact hown2, HC, (fun _ => HF.out), hB2⟩
          case measure => simp [intOf]
        · have hsn2 : Hid (keepT ps2 = keepT ps ++ [x]) := by rw [Hid, hsn.out, if_neg hz]
          have hne := isEmpty_t hz
          clear hsn hz
          generalize keepT ps = K at *
          go_wp2_with (first
            | (at_builtin; refine wpList_append_own _ rfl _ _ 28 rfl w.heap.size 9 i0 (.string ByteArray.empty) 1 16 Tryz.underlying28 hi hz0 hz1 hz2 rfl (by decide) _ _ _ rfl (hown2.out.alloc _) ⟨w2.heap.size, 0, none⟩ 1 1 [.string x] rfl rfl (cell_one_new _ _ _) (fun x hx => by simp at hx; subst hx; rfl) (by unfold maxLen; omega) (by omega) (by have := hB2.size; simp; omega) ?_; intro v' w3 hown' hgrow3 hnil3))
          go_roundw
          case rel =>
            obtain ⟨g3, cap3, hv3⟩ : ∃ g3 cap3, v' = .slice (some ⟨g3, 0, none⟩) (K.length + 1) cap3 := by
              rcases hown'.2 with ⟨_, h⟩ | ⟨g3, cap3, _, h, _⟩
              · omega
              · exact ⟨g3, cap3, h⟩
            have hb3 : Below w.heap.size w2 w3 := ((Below.refl _ _).alloc hB2.size _).grown hgrow3 (by have := hB2.size; simp; omega) (fun q hq => (hown2.out.lt q hq).1)
            exact ⟨s.size + 1, s.size + 1, ps2, some ⟨g3, 0, none⟩, cap3, by omega, by omega, by go_num, by go_num, by rw [hv3, hsn2.out, List.length_append]; rfl, by rw [hsn2.out, List.length_append]; show _ + 1 ≤ _; omega, by rw [hsn2.out, List.map_append, List.length_append]; exact hown', HC, (fun _ => HF.out), hB2.trans hb3⟩
          case measure => simp [intOf]
      · have hlt : k < s.size := by omega
        have hbe : ((k : Int) == (s.size : Int)) = false := beq_eq_false_iff_ne.2 (by omega)
        by_cases hc : (s[k].toNat : Int) = 44
        · have hc2 : s[k] = 44 := UInt8.toNat_inj.1 (show s[k].toNat = 44 by omega)
          have HC : Hid (k + 1 ≤ s.size → Scan s (ps ++ [s.extract f k]) (k + 1) (k + 1)) := fun _ => (hsc.out (by omega)).cut hlt hc2
          have HF : Hid (k + 1 = s.size + 1 → ps ++ [s.extract f k] = pieces s) := fun h => by omega
          clear hc2
          go_wp2_with fail
          refine (rtrim_any (s.extract f k) _ HEX.out).mono ?_
          rintro e w2 ⟨rfl, hw2⟩
          have B2 : Below wr.heap.size wr w2 := by rw [hw2]; exact Below.refl _ _
          clear hw2
          have hown2 : Hid (w2.ownsRow w.heap.size 9 1 (.slice ao (keepT ps).length cv) (keepT ps).length ((keepT ps).map Value.string)) := owns_below hown.out B2
          have hB2 := hB.trans (B2.mono hB.size)
          clear hown B2 HEX hsc hfi
          generalize ps ++ [s.extract f k] = ps2 at *
          generalize trimT (s.extract f k) = x at *
          by_cases hz : x.size = 0
          · have hsn2 : Hid (keepT ps2 = keepT ps) := by rw [Hid, hsn.out, if_pos hz, List.append_nil]
            have he := empty_t hz
            clear hsn
            subst he
            go_wp2
            go_roundw
            case rel => exact ⟨k + 1, k + 1, ps2, ao, cv, by omega, by omega, by go_num, by go_num, by rw [hsn2.out], by rw [hsn2.out]; omega, by rw [hsn2.out]; exact hown2, HC, HF, hB2⟩
            case measure => simp [intOf]; omega
          · have hsn2 : Hid (keepT ps2 = keepT ps ++ [x]) := by rw [Hid, hsn.out, if_neg hz]
            have hne := isEmpty_t hz
            clear hsn hz
            generalize keepT ps = K at *
            go_wp2_with (first
              | (at_builtin; refine wpList_append_own _ rfl _ _ 28 rfl w.heap.size 9 i0 (.string ByteArray.empty) 1 16 Tryz.underlying28 hi hz0 hz1 hz2 rfl (by decide) _ _ _ rfl (hown2.out.alloc _) ⟨w2.heap.size, 0, none⟩ 1 1 [.string x] rfl rfl (cell_one_new _ _ _) (fun x hx => by simp at hx; subst hx; rfl) (by unfold maxLen; omega) (by omega) (by have := hB2.size; simp; omega) ?_; intro v' w3 hown' hgrow3 hnil3))
            go_roundw
            case rel =>
              obtain ⟨g3, cap3, hv3⟩ : ∃ g3 cap3, v' = .slice (some ⟨g3, 0, none⟩) (K.length + 1) cap3 := by
                rcases hown'.2 with ⟨_, h⟩ | ⟨g3, cap3, _, h, _⟩
                · omega
                · exact ⟨g3, cap3, h⟩
              have hb3 : Below w.heap.size w2 w3 := ((Below.refl _ _).alloc hB2.size _).grown hgrow3 (by have := hB2.size; simp; omega) (fun q hq => (hown2.out.lt q hq).1)
              exact ⟨k + 1, k + 1, ps2, some ⟨g3, 0, none⟩, cap3, by omega, by omega, by go_num, by go_num, by rw [hv3, hsn2.out, List.length_append]; rfl, by rw [hsn2.out, List.length_append]; show _ + 1 ≤ _; omega, by rw [hsn2.out, List.map_append, List.length_append]; exact hown', HC, HF, hB2.trans hb3⟩
            case measure => simp [intOf]; omega
        · have hc2 : s[k] ≠ 44 := fun e => hc (by rw [e]; rfl)
          have hcb : ((s[k].toNat : Int) == 44) = false := beq_eq_false_iff_ne.2 hc
          have HC : Hid (k + 1 ≤ s.size → Scan s ps f (k + 1)) := fun _ => (hsc.out (by omega)).go hlt hc2
          clear hc2
          go_wp2
          go_roundw
          case rel => exact ⟨k + 1, f, ps, ao, cv, by omega, by omega, by go_num, rfl, rfl, by omega, hown, HC, (fun h => by omega), hB⟩
          case measure => simp [intOf]; omega
    · have hke : k = s.size + 1 := by omega
      have HP := hfi.out hke
      subst HP
      go_wp2
      go_ret
      exact ⟨ao, cv, rfl, hown.out, hB⟩
end Go.Proofs.YtajfjjmabncldaaGreatDoor

/- The reference's Get, List and Has: what each answers of fields. -/
namespace Go.Proofs.YtajfjjmabncldaaGreatDoor
open Go.ChangeShapes Go.WideShapes Go.ChangeAt Go.RowKit
set_option linter.unusedVariables false

theorem rsame_any (a b : ByteArray) (w : World) (ha : a.size ≤ 4294967281) (hb : b.size ≤ 4294967281) :
    Calls Tryz.prog 62 #[.string a, .string b] w fun e w' => e = .returned (.bool (smT a b)) ∧ Below w.heap.size w w' := by
  unfold smT
  go_enter Tryz.func62, Tryz.ntmps62
  go_wp2_with fail
  refine (rfold_any a _ ha).mono ?_
  rintro e w1 ⟨rfl, B1⟩
  go_wp2_with fail
  refine (rfold_any b _ hb).mono ?_
  rintro e w2 ⟨rfl, B2⟩
  go_wp2
  go_ret
  exact ⟨rfl, B1.trans (B2.mono B1.size)⟩

set_option maxRecDepth 100000 in
set_option maxHeartbeats 1000000 in
theorem rget_any (fs : Fs) (a : Option Addr) (c : Nat) (name : ByteArray) (w : World) (hf : Fds w.heap.size w (.slice a fs.length c) fs) (hb : FBd 1048576 fs) (hn : name.size ≤ 1048576) (hl : fs.length ≤ 1024) :
    Calls Tryz.prog 26 #[.slice a fs.length c, .string name] w fun e w' => ∃ ao cv, e = .returned (.slice ao (getF fs name).length cv) ∧ OwnT w.heap.size w' (.slice ao (getF fs name).length cv) (getF fs name) ∧ Below w.heap.size w w' := by
  have C0 : Below w.heap.size w (w.alloc (.cells #[] 9)) := (Below.refl _ _).alloc (Nat.le_refl _) _
  have HN : Hid (name.size ≤ 4294967281) := by rw [Hid]; omega
  rcases Nat.eq_zero_or_pos fs.length with h0 | hp
  · have he : fs = [] := List.eq_nil_of_length_eq_zero h0
    subst he
    clear hf hb hn hl h0 HN
    go_enter Tryz.func26, Tryz.ntmps26
    go_wp2_with fail
    refine wp_loop_rounds 1 ?_
    rw [rounds_succ]
    go_wp2
    go_ret
    exact ⟨_, 0, rfl, OwnT.empty _ _ (Nat.le_refl _), C0⟩
  · obtain ⟨a', c', e, hnil, h1, h2, h3⟩ := hf
    obtain ⟨rfl, _, rfl⟩ := slice_inj e
    obtain ⟨g, off, rfl, hg, hc⟩ := h3 hp
    have HC : Hid (∀ (j : Nat) (hj : j < fs.length), w.cell? ⟨g, off + j * 2, none⟩ = some (.string fs[j].1) ∧ w.cell? ⟨g, off + j * 2 + 1, none⟩ = some (.string fs[j].2)) := hc
    have HBD : Hid (FBd 1048576 fs) := hb
    clear e hnil h1 h2 h3 hn hc hb
    go_enter Tryz.func26, Tryz.ntmps26
    go_wp2_with fail
    go_loopw [5, 6] (fun v vi wr => ∃ (k : Nat) (ao : Option Addr) (cv : Nat), k ≤ fs.length ∧ vi = .int .i64 k ∧ v = .slice ao (getF (fs.take k) name).length cv ∧ OwnT w.heap.size wr v (getF (fs.take k) name) ∧ Below w.heap.size w wr) (fun _ vi _ => fs.length - (intOf vi).toNat)
    case atStart => exact ⟨0, _, 0, Nat.zero_le _, rfl, rfl, OwnT.empty _ _ (Nat.le_refl _), C0⟩
    case round =>
      obtain ⟨k, ao, cv, hk, rfl, rfl, hown, hB⟩ := hrel
      clear C0
      by_cases hlt : k < fs.length
      · have hc1 := (hB.cell (p := ⟨g, off + k * 2, none⟩) hg).trans (HC.out k hlt).1
        have hsz := HBD.out fs[k] (List.getElem_mem hlt)
        have hsn : Hid (getF (fs.take (k + 1)) name = getF (fs.take k) name ++ (if smT fs[k].1 name = true then [fs[k].2] else [])) := by
          rw [Hid, List.take_succ_eq_append_getElem hlt, getF_snoc]
        have hkl : (getF (fs.take k) name).length ≤ k := Nat.le_trans (getF_len _ _) (List.length_take_le _ _)
        have hc2 : Hid (w.cell? ⟨g, off + k * 2 + 1, none⟩ = some (.string fs[k].2)) := (HC.out k hlt).2
        generalize fs[k] = f at *
        obtain ⟨fn, fv⟩ := f
        simp only at hc1 hc2 hsz hsn
        have hs1 : Hid (fn.size ≤ 4294967281) := by rw [Hid]; omega
        have HS : Hid (∀ W, Calls Tryz.prog 62 #[.string fn, .string name] W fun e w' => e = .returned (.bool (smT fn name)) ∧ Below W.heap.size W w') := fun W => rsame_any fn name W hs1.out HN.out
        generalize smT fn name = b at *
        have HO : Hid (OwnT w.heap.size wr (.slice ao (getF (fs.take k) name).length cv) (getF (fs.take k) name)) := hown
        have HKL : Hid ((getF (fs.take k) name).length ≤ 16777216) := by rw [Hid]; omega
        clear hsz hown hkl
        generalize getF (fs.take k) name = K at *
        go_wp2_with fail
        refine (HS.out _).mono ?_
        rintro e w2 ⟨rfl, B2⟩
        have own2 := HO.out.keep B2
        have hB2 := hB.trans (B2.mono hB.size)
        have c1 := (hB2.cell (p := ⟨g, off + k * 2 + 1, none⟩) hg).trans hc2.out
        clear B2 hB HO hc1 hc2 HS
        cases b
        · have hsn2 : Hid (getF (fs.take (k + 1)) name = K) := by rw [Hid, hsn.out, if_neg (by decide), List.append_nil]
          clear hsn c1
          go_wp2
          go_roundw
          case rel => exact ⟨k + 1, ao, cv, by omega, by go_num, by rw [hsn2.out], by rw [hsn2.out]; exact own2, hB2⟩
          case measure => simp [intOf]; omega
        · have hsn2 : Hid (getF (fs.take (k + 1)) name = K ++ [fv]) := by rw [Hid, hsn.out, if_pos rfl]
          clear hsn
          have own3 := own2.keep ((Below.refl _ _).alloc (Nat.le_refl _) (.cells #[.string fv] 9))
          obtain ⟨v4, w4, r4, own4, B4⟩ := ownT_append own3 (one_txs w2 fv _ (Nat.lt_succ_self _)) (by have := HKL.out; simp; omega) (by have := hB2.size; simp; omega)
          have hB4 : Below w.heap.size w w4 := (hB2.alloc hB2.size _).trans B4
          obtain ⟨a4, c4, rfl, _⟩ := own4.form
          have HO4 : Hid (OwnT w.heap.size w4 (.slice a4 (K ++ [fv]).length c4) (K ++ [fv])) := own4
          have HR : Hid ((Builtin.append_ #[28, 28] 28 #[.slice ao K.length cv, .slice (some ⟨w2.heap.size, 0, none⟩) 1 1]).run Tryz.prog (w2.alloc (.cells #[.string fv] 9)) = .ok (.slice a4 (K ++ [fv]).length c4) w4) := r4
          clear own2 own3 own4 B4 hB2 r4
          have HL : Hid ((K ++ [fv]).length = (getF (fs.take (k + 1)) name).length) := by rw [Hid, hsn2.out]
          generalize (K ++ [fv]).length = L at *
          go_wp2_with (at_builtin; refine wpList_append_run2 rfl _ _ 28 28 rfl _ _ _ w4 rfl rfl HR.out ?_)
          go_roundw
          case rel => exact ⟨k + 1, a4, c4, by omega, by go_num, by rw [HL.out], by rw [hsn2.out]; exact HO4.out, hB4⟩
          case measure => simp [intOf]; omega
      · go_wp2
        go_ret
        have hk' : k = fs.length := by omega
        subst hk'
        rw [List.take_length] at *
        exact ⟨ao, cv, rfl, hown, hB⟩

theorem app_take (K X : List ByteArray) (j : Nat) (h : j < X.length) : K ++ X.take (j + 1) = (K ++ X.take j) ++ [X[j]] := by
  rw [List.take_succ_eq_append_getElem h, List.append_assoc]
/-- One text appended; which block may turn. -/
theorem ownT_one {B : Nat} {w : World} {v : Value} {X : List ByteArray} (x : ByteArray) (h : OwnT B w v X) (hmax : X.length + 1 ≤ 4294967296) (hB : B ≤ w.heap.size) :
    ∃ g' c' w', (Builtin.append_ #[28, 28] 28 #[v, .slice (some ⟨w.heap.size, 0, none⟩) 1 1]).run Tryz.prog (w.alloc (.cells #[.string x] 9)) = .ok (.slice (some ⟨g', 0, none⟩) (X ++ [x]).length c') w' ∧
      OwnT B w' (.slice (some ⟨g', 0, none⟩) (X ++ [x]).length c') (X ++ [x]) ∧ Below B w w' ∧ (∀ k, k < w.heap.size → v.ownBlock ≠ some k → w'.heap[k]? = w.heap[k]?) ∧ w.heap.size ≤ w'.heap.size ∧ (v.ownBlock = some g' ∨ w.heap.size < g') := by
  obtain ⟨i, hi, hz0, hz1, hz2⟩ := info_parts info9
  obtain ⟨v', w', hr, q1, q2, q3, q4⟩ := run_append_own_at (P := Tryz.prog) (w.alloc (.cells #[.string x] 9)) B 28 28 9 i (.string ByteArray.empty) 1 16 Tryz.underlying28 hi hz0 hz1 hz2 rfl (by decide) v X.length (X.map Value.string) (h.alloc _) ⟨w.heap.size, 0, none⟩ 1 1 [.string x] rfl
    (fun j u hj => by
      have : j = 0 := by have := (List.getElem?_eq_some_iff.1 hj).1; simpa using this
      subst this
      have : u = .string x := by simpa using hj.symm
      subst this
      rw [addr_add]
      exact tblk_cell (tblk_new _ _) rfl) (rowT_one [x]) (by unfold maxLen; omega) (by omega) (by simp; omega)
  have hq : w'.ownsRow B 9 1 v' (X ++ [x]).length ((X ++ [x]).map Value.string) := by rw [List.length_append, List.map_append]; exact q1
  have hfr : ∀ k, k < w.heap.size → v.ownBlock ≠ some k → w'.heap[k]? = w.heap[k]? := fun k hk hn =>
    (q2.block k (by simp; omega) (fun e => hn e.symm)).trans (Below.heap_alloc _ _ _ hk)
  rcases hq.2 with ⟨_, hz⟩ | ⟨g', c', cur, hv, _⟩
  · rw [List.length_append] at hz
    have : ([x] : List ByteArray).length = 1 := rfl
    omega
  · subst hv
    refine ⟨g', c', w', hr, hq, ((Below.refl _ _).alloc hB _).grown q2 (by simp; omega) (fun q hq => (h.lt q hq).1), hfr, by have := q2.size; simp at this; omega, ?_⟩
    rcases q4 with q4 | q4
    · exact .inl (q4.symm.trans rfl)
    · have : g' = w.heap.size + 1 := by simpa [Value.ownBlock] using q4
      exact .inr (by omega)

set_option maxRecDepth 100000 in
set_option maxHeartbeats 2000000 in
theorem rlist_any (fs : Fs) (a : Option Addr) (c : Nat) (name : ByteArray) (w : World) (hf : Fds w.heap.size w (.slice a fs.length c) fs) (hb : FBd 1048576 fs) (hn : name.size ≤ 1048576) (hl : fs.length ≤ 1024) :
    Calls Tryz.prog 22 #[.slice a fs.length c, .string name] w fun e w' => ∃ ao cv, e = .returned (.slice ao (listF fs name).length cv) ∧ OwnT w.heap.size w' (.slice ao (listF fs name).length cv) (listF fs name) ∧ Below w.heap.size w w' := by
  have C0 : Below w.heap.size w (w.alloc (.cells #[] 9)) := (Below.refl _ _).alloc (Nat.le_refl _) _
  have HG : Hid (Calls Tryz.prog 26 #[.slice a fs.length c, .string name] (w.alloc (.cells #[] 9)) fun e w' => ∃ ao cv, e = .returned (.slice ao (getF fs name).length cv) ∧ OwnT (w.alloc (.cells #[] 9)).heap.size w' (.slice ao (getF fs name).length cv) (getF fs name) ∧ Below (w.alloc (.cells #[] 9)).heap.size (w.alloc (.cells #[] 9)) w') := rget_any fs a c name _ ((hf.keep C0).mono C0.size) hb hn hl
  have HT : Hid ((splA (getF fs name)).length ≤ 1024 * 1048578) := listF_len hb hl
  have HV : Hid (TBd 1048576 (getF fs name)) := getF_bd hb
  have HVL : Hid ((getF fs name).length ≤ 1024) := Nat.le_trans (getF_len _ _) hl
  have e0 : listF fs name = splA (getF fs name) := rfl
  rw [e0]
  clear e0 hf hb hn hl
  generalize getF fs name = vs at *
  go_enter Tryz.func22, Tryz.ntmps22
  go_wp2_with fail
  refine HG.out.mono ?_
  rintro e w1 ⟨ao1, cv1, rfl, own1, B1⟩
  have E1 : OwnT w.heap.size w1 (.slice (some ⟨w.heap.size, 0, none⟩) 0 0) [] := (OwnT.empty w.heap.size w (Nat.le_refl _)).keep B1
  have D1 : Below w.heap.size w w1 := C0.trans (B1.mono C0.size)
  clear HG
  rcases Nat.eq_zero_or_pos vs.length with h0 | hp
  · have he : vs = [] := List.eq_nil_of_length_eq_zero h0
    subst he
    clear h0 own1 C0 B1
    go_wp2_with fail
    refine wp_loop_rounds 1 ?_
    rw [rounds_succ]
    go_wp2
    go_ret
    exact ⟨_, 0, rfl, E1, D1⟩
  · obtain ⟨g, hg0, hg, hao, hcells⟩ : ∃ g : Nat, w.heap.size < g ∧ g < w1.heap.size ∧ ao1 = some ⟨g, 0, none⟩ ∧ ∀ (j : Nat) (hj : j < vs.length), w1.cell? ⟨g, j, none⟩ = some (.string vs[j]) := by
      have T := own1.txs
      rcases own1.2 with ⟨_, hz⟩ | ⟨g', c', cur, hv, hb, hg, _⟩
      · omega
      · obtain ⟨e1, _, _⟩ := slice_inj hv
        refine ⟨g', by simp at hb; omega, heap_lt hg, e1, fun j hj => ?_⟩
        obtain ⟨a', c', e, _, _, _, h3⟩ := T
        obtain ⟨e2, _, _⟩ := slice_inj e
        obtain ⟨g2, off, e3, _, hc⟩ := h3 hp
        rw [e1] at e2
        rw [← e2] at e3
        injection e3 with e3
        injection e3 with e4 e5
        have k := hc j hj
        rw [← e4, ← e5, Nat.zero_add] at k
        exact k
    subst hao
    have HC1 : Hid (∀ (j : Nat) (hj : j < vs.length), w1.cell? ⟨g, j, none⟩ = some (.string vs[j])) := hcells
    have HE1 : Hid (OwnT w.heap.size w1 (.slice (some ⟨w.heap.size, 0, none⟩) 0 0) []) := E1
    clear hcells own1 C0 B1 E1
    have hvl := HVL.out
    go_wp2_with fail
    go_loopw [5, 7] (fun v vi wr => ∃ (k gO cv : Nat), k ≤ vs.length ∧ vi = .int .i64 k ∧ v = .slice (some ⟨gO, 0, none⟩) (splA (vs.take k)).length cv ∧ Hid (OwnT w.heap.size wr (.slice (some ⟨gO, 0, none⟩) (splA (vs.take k)).length cv) (splA (vs.take k))) ∧ Hid (gO ≠ g) ∧ Hid (∀ (j : Nat) (hj : j < vs.length), wr.cell? ⟨g, j, none⟩ = some (.string vs[j])) ∧ g < wr.heap.size ∧ Below w.heap.size w wr) (fun _ vi _ => vs.length - (intOf vi).toNat)
    case atStart => exact ⟨0, w.heap.size, 0, Nat.zero_le _, rfl, rfl, HE1, by rw [Hid]; omega, HC1, hg, D1⟩
    case round =>
      obtain ⟨k, gO, cv, hk, rfl, rfl, hown, hne, hcs, hgr, hB⟩ := hrel
      clear HC1 HE1 D1 hg
      by_cases hlt : k < vs.length
      · have hc1 := hcs.out k hlt
        have hsz : Hid (vs[k].size ≤ 1048576) := HV.out vs[k] (List.getElem_mem hlt)
        have hsn : Hid (splA (vs.take (k + 1)) = splA (vs.take k) ++ splT vs[k]) := by
          rw [Hid, List.take_succ_eq_append_getElem hlt, splA_snoc]
        have hkl : Hid ((splA (vs.take (k + 1))).length ≤ 1024 * 1048578) := Nat.le_trans (splA_take vs (k + 1)) HT.out
        generalize vs[k] = x at *
        generalize splA (vs.take k) = K at *
        go_wp2_with fail
        refine (rsplit_any x _ (by have := hsz.out; omega)).mono ?_
        rintro e w2 ⟨ao2, cv2, rfl, own2, B2⟩
        have own2' : OwnT wr.heap.size w2 (.slice ao2 (splT x).length cv2) (splT x) := own2
        have ownK : Hid (OwnT w.heap.size w2 (.slice (some ⟨gO, 0, none⟩) K.length cv) K) := hown.out.keep B2
        have hB2 := hB.trans (B2.mono hB.size)
        have hcs2 : Hid (∀ (j : Nat) (hj : j < vs.length), w2.cell? ⟨g, j, none⟩ = some (.string vs[j])) := fun j hj => (B2.cell (p := ⟨g, j, none⟩) hgr).trans (hcs.out j hj)
        have hgO : gO < wr.heap.size := (hown.out.lt gO rfl).2
        have hg2 : g < w2.heap.size := Nat.lt_of_lt_of_le hgr B2.size
        have eX : Hid (splT x = keepT (pieces x)) := rfl
        clear own2 hB hcs hc1 hown
        have hLX : Hid ((K ++ splT x).length ≤ 1024 * 1048578) := by rw [Hid, ← hsn.out]; exact hkl.out
        have HSZ2 : Hid (wr.heap.size ≤ w2.heap.size) := B2.size
        clear B2 hkl
        rw [← eX.out]
        generalize splT x = X at *
        rcases Nat.eq_zero_or_pos X.length with h0 | hpx
        · have he : X = [] := List.eq_nil_of_length_eq_zero h0
          have hsn2 : Hid (splA (vs.take (k + 1)) = K) := by rw [Hid, hsn.out, he, List.append_nil]
          clear hsn eX own2'
          subst he
          clear h0 hLX
          go_wp2_with fail
          refine wp_loop_rounds 1 ?_
          rw [rounds_succ]
          go_wp2
          go_roundw
          case rel => exact ⟨k + 1, gO, cv, by omega, by go_num, by rw [hsn2.out], by rw [hsn2.out]; exact ownK, hne, hcs2, hg2, hB2⟩
          case measure => simp [intOf]; omega
        · obtain ⟨gX, hgX0, hgX, hao, hcells⟩ : ∃ gX : Nat, wr.heap.size ≤ gX ∧ gX < w2.heap.size ∧ ao2 = some ⟨gX, 0, none⟩ ∧ ∀ (j : Nat) (hj : j < X.length), w2.cell? ⟨gX, j, none⟩ = some (.string X[j]) := by
            have T := own2'.txs
            rcases own2'.2 with ⟨_, hz⟩ | ⟨g', c', cur, hv, hb, hg, _⟩
            · omega
            · obtain ⟨e1, _, _⟩ := slice_inj hv
              refine ⟨g', hb, heap_lt hg, e1, fun j hj => ?_⟩
              obtain ⟨a', c', e, _, _, _, h3⟩ := T
              obtain ⟨e2, _, _⟩ := slice_inj e
              obtain ⟨g2, off, e3, _, hc⟩ := h3 hpx
              rw [e1] at e2
              rw [← e2] at e3
              injection e3 with e3
              injection e3 with e4 e5
              have k := hc j hj
              rw [← e4, ← e5, Nat.zero_add] at k
              exact k
          subst hao
          have HCX : Hid (∀ (j : Nat) (hj : j < X.length), w2.cell? ⟨gX, j, none⟩ = some (.string X[j])) := hcells
          have hnX : Hid (gO ≠ gX) := by rw [Hid]; omega
          have hXl : X.length ≤ 1073743872 := by have := hLX.out; rw [List.length_append] at this; omega
          have HFl : Hid (K ++ X = splA (vs.take (k + 1))) := hsn.out.symm
          clear hcells own2' hgX0 hgO HSZ2 eX hsn
          go_wp2_with fail
          go_loopw [5, 9] (fun v vj wi => ∃ (j gP cp : Nat), j ≤ X.length ∧ vj = .int .i64 j ∧ v = .slice (some ⟨gP, 0, none⟩) (K ++ X.take j).length cp ∧ Hid (OwnT w.heap.size wi (.slice (some ⟨gP, 0, none⟩) (K ++ X.take j).length cp) (K ++ X.take j)) ∧ Hid (gP ≠ g) ∧ Hid (gP ≠ gX) ∧ Hid (∀ (j : Nat) (hj : j < vs.length), wi.cell? ⟨g, j, none⟩ = some (.string vs[j])) ∧ Hid (∀ (j : Nat) (hj : j < X.length), wi.cell? ⟨gX, j, none⟩ = some (.string X[j])) ∧ g < wi.heap.size ∧ gX < wi.heap.size ∧ Below w.heap.size w wi) (fun _ vj _ => X.length - (intOf vj).toNat)
          case atStart => exact ⟨0, gO, cv, Nat.zero_le _, rfl, by simp, by simpa using ownK, hne, hnX, hcs2, HCX, hg2, hgX, hB2⟩
          case round =>
            obtain ⟨j, gP, cp, hj, rfl, rfl, hoP, hn1, hn2, hc1, hc2, hl1, hl2, hBi⟩ := hrel
            by_cases hjt : j < X.length
            · have hcx := hc2.out j hjt
              have hap : Hid (K ++ X.take (j + 1) = (K ++ X.take j) ++ [X[j]]) := app_take K X j hjt
              have hlen : Hid ((K ++ X.take j).length + 1 ≤ 4294967296) := by
                have := hLX.out
                rw [Hid, List.length_append, List.length_take]
                rw [List.length_append] at this
                omega
              generalize X[j] = y at *
              generalize K ++ X.take j = R at *
              obtain ⟨g', c', w', hr, own', B', hfr, hsz', hwh⟩ := ownT_one y hoP.out hlen.out hBi.size
              have HO : Hid (OwnT w.heap.size w' (.slice (some ⟨g', 0, none⟩) (K ++ X.take (j + 1)).length c') (K ++ X.take (j + 1))) := by rw [Hid, hap.out]; exact own'
              have m1 : Hid (g' ≠ g) := by
                rw [Hid]
                rcases hwh with q | q
                · have : gP = g' := by simpa [Value.ownBlock] using q
                  rw [← this]; exact hn1.out
                · omega
              have m2 : Hid (g' ≠ gX) := by
                rw [Hid]
                rcases hwh with q | q
                · have : gP = g' := by simpa [Value.ownBlock] using q
                  rw [← this]; exact hn2.out
                · omega
              have k1 : Hid (∀ (j : Nat) (hj : j < vs.length), w'.cell? ⟨g, j, none⟩ = some (.string vs[j])) := fun i hi =>
                (World.cell?_of_block (a := ⟨g, i, none⟩) (hfr g hl1 (by simpa [Value.ownBlock] using hn1.out))).trans (hc1.out i hi)
              have k2 : Hid (∀ (j : Nat) (hj : j < X.length), w'.cell? ⟨gX, j, none⟩ = some (.string X[j])) := fun i hi =>
                (World.cell?_of_block (a := ⟨gX, i, none⟩) (hfr gX hl2 (by simpa [Value.ownBlock] using hn2.out))).trans (hc2.out i hi)
              have D' : Below w.heap.size w w' := hBi.trans B'
              have HR : Hid _ := hr
              have HL : Hid ((R ++ [y]).length = (K ++ X.take (j + 1)).length) := by rw [Hid, hap.out]
              have hs1 : g < w'.heap.size := by omega
              have hs2 : gX < w'.heap.size := by omega
              clear hr own' B' hfr hwh hsz' hc1 hc2 hn1 hn2 hBi hoP
              generalize (R ++ [y]).length = L at *
              go_wp2_with (at_builtin; refine wpList_append_run2 rfl _ _ 28 28 rfl _ _ _ w' rfl rfl HR.out ?_)
              go_roundw
              case rel => exact ⟨j + 1, g', c', by omega, by go_num, by rw [HL.out], HO, m1, m2, k1, k2, hs1, hs2, D'⟩
              case measure => simp [intOf]; omega
            · have hj' : j = X.length := by omega
              subst hj'
              rw [List.take_length, HFl.out] at *
              go_wp2
              go_roundw
              case rel => exact ⟨k + 1, gP, cp, by omega, by go_num, rfl, hoP, hn1, hc1, hl1, hBi⟩
              case measure => simp [intOf]; omega
      · go_wp2
        go_ret
        have hk' : k = vs.length := by omega
        subst hk'
        rw [List.take_length] at *
        exact ⟨_, cv, rfl, hown.out, hB⟩

end Go.Proofs.YtajfjjmabncldaaGreatDoor

/- The reference's In (split off FsW). -/
namespace Go.Proofs.YtajfjjmabncldaaGreatDoor
open Go.ChangeShapes Go.WideShapes Go.ChangeAt Go.RowKit
set_option linter.unusedVariables false

set_option maxRecDepth 100000 in
set_option maxHeartbeats 1000000 in
theorem rin_any (xs : List ByteArray) (a : Option Addr) (c : Nat) (s : ByteArray) (w : World) (hx : Txs w.heap.size w (.slice a xs.length c) xs) (hb : TBd 1048576 xs) (hs : s.size ≤ 1048576) :
    Calls Tryz.prog 25 #[.slice a xs.length c, .string s] w fun e w' => e = .returned (.bool (anyT xs s)) ∧ Below w.heap.size w w' := by
  have hlm := hx.len
  unfold maxLen at hlm
  have HS : Hid (s.size ≤ 4294967281) := by rw [Hid]; omega
  rcases Nat.eq_zero_or_pos xs.length with h0 | hp
  · have he : xs = [] := List.eq_nil_of_length_eq_zero h0
    subst he
    clear hx hb h0 hlm HS hs
    go_enter Tryz.func25, Tryz.ntmps25
    go_wp2_with fail
    refine wp_loop_rounds 1 ?_
    rw [rounds_succ]
    go_wp2
    go_ret
    exact ⟨rfl, Below.refl _ _⟩
  · obtain ⟨a', c', e, hnil, q1, q2, q3⟩ := hx
    obtain ⟨rfl, _, rfl⟩ := slice_inj e
    obtain ⟨g, off, rfl, hg, hc⟩ := q3 hp
    have HC : Hid (∀ (j : Nat) (hj : j < xs.length), w.cell? ⟨g, off + j, none⟩ = some (.string xs[j])) := hc
    have HBD : Hid (TBd 1048576 xs) := hb
    have hln : xs.length ≤ 9223372036854775807 := by omega
    clear e hnil q1 q2 q3 hlm hc hb hs
    go_enter Tryz.func25, Tryz.ntmps25
    go_wp2_with fail
    go_loopw [5] (fun vi wr => ∃ k : Nat, k ≤ xs.length ∧ vi = .int .i64 k ∧ Hid (anyT (xs.take k) s = false) ∧ Below w.heap.size w wr) (fun vi _ => xs.length - (intOf vi).toNat)
    case atStart => exact ⟨0, Nat.zero_le _, rfl, rfl, Below.refl _ _⟩
    case round =>
      obtain ⟨k, hk, rfl, hA, hB⟩ := hrel
      by_cases hlt : k < xs.length
      · have hc1 := (hB.cell (p := ⟨g, off + k, none⟩) hg).trans (HC.out k hlt)
        have hsz := HBD.out xs[k] (List.getElem_mem hlt)
        have HA : Hid (∀ W, Calls Tryz.prog 62 #[.string xs[k], .string s] W fun e w' => e = .returned (.bool (smT xs[k] s)) ∧ Below W.heap.size W w') := fun W => rsame_any _ s W (by omega) HS.out
        have hY : Hid (smT xs[k] s = true → anyT xs s = true) := fun q => anyT_at k hlt q
        have hN : Hid (smT xs[k] s = false → anyT (xs.take (k + 1)) s = false) := fun q => anyT_snoc hlt hA.out q
        generalize smT xs[k] s = b at *
        clear hsz
        generalize xs[k] = x at *
        go_wp2_with fail
        refine (HA.out _).mono ?_
        rintro e w2 ⟨rfl, B2⟩
        have hB2 := hB.trans (B2.mono hB.size)
        clear HA hB B2 hc1
        cases b
        · have hN2 : Hid (anyT (xs.take (k + 1)) s = false) := hN.out rfl
          clear hN hY
          go_wp2
          go_roundw
          case rel => exact ⟨k + 1, by omega, by go_num, hN2, hB2⟩
          case measure => simp [intOf]; omega
        · have hY2 : Hid (anyT xs s = true) := hY.out rfl
          clear hN hY
          go_wp2
          go_ret
          exact ⟨ret_bool hY2.out.symm, hB2⟩
      · go_wp2
        go_ret
        have hk' : k = xs.length := by omega
        subst hk'
        have h := hA.out
        rw [List.take_length] at h
        exact ⟨ret_bool h.symm, hB⟩
end Go.Proofs.YtajfjjmabncldaaGreatDoor

/- The reference's telling of a number that isn't below 0. -/
namespace Go.Proofs.YtajfjjmabncldaaGreatDoor
open Go.RowKit
set_option linter.unusedVariables false

theorem rx_dec_small {u : Nat} (h : u < 10) : Lib.decDigits u = [UInt8.ofNat (48 + u)] := by rw [Lib.decDigits, dif_pos h]
theorem rx_dec_big {u : Nat} (h : ¬ u < 10) : Lib.decDigits u = Lib.decDigits (u / 10) ++ [UInt8.ofNat (48 + u % 10)] := by rw [Lib.decDigits, dif_neg h]
/-- How far the reference has come: what is left of the number, what is told already. -/
def RxJ (n u : Nat) (acc : List UInt8) : Prop := (acc = [] ∧ u = n) ∨ (acc ≠ [] ∧ Lib.decDigits n = (if u = 0 then [] else Lib.decDigits u) ++ acc)
theorem rx_JD_step {n u : Nat} {acc : List UInt8} (h : RxJ n u acc) (c : acc = [] ∨ 0 < u) : RxJ n (u / 10) (UInt8.ofNat (48 + u % 10) :: acc) := by
  refine .inr ⟨by simp, ?_⟩
  have key : Lib.decDigits u = (if u / 10 = 0 then [] else Lib.decDigits (u / 10)) ++ [UInt8.ofNat (48 + u % 10)] := by
    by_cases k : u < 10
    · rw [rx_dec_small k, if_pos (by omega), Nat.mod_eq_of_lt k]; rfl
    · rw [rx_dec_big k, if_neg (by omega)]
  rcases h with ⟨rfl, rfl⟩ | ⟨h1, h2⟩
  · exact key
  · have hu : 0 < u := by
      rcases c with c | c
      · exact absurd c h1
      · exact c
    rw [h2, if_neg (by omega), key, List.append_assoc]; rfl
theorem rx_JD_end {n : Nat} {acc : List UInt8} (h : RxJ n 0 acc) (c : acc ≠ []) : acc = Lib.decDigits n := by
  rcases h with ⟨h1, _⟩ | ⟨_, h2⟩
  · exact absurd h1 c
  · rw [h2]; rfl
theorem rx_ret_s {a b : ByteArray} (h : a = b) : Ending.returned (.string a) = .returned (.string b) := by rw [h]
theorem rx_bytes_ext {a : ByteArray} {l : List UInt8} (h : a.data.toList = l) : a = ⟨l.toArray⟩ := by
  obtain ⟨⟨l'⟩⟩ := a
  simp at h
  rw [h]
theorem rx_cons_data (b : UInt8) (o : ByteArray) : ((⟨#[b]⟩ : ByteArray) ++ o).data.toList = b :: o.data.toList := by
  rw [Joins.data_append]; rfl
theorem rx_conv1 (W : World) (x : Int) (b : UInt8) (h : (b.toNat : Int) = x) : (convert 23 9 (.slice (some ⟨W.heap.size, 0, none⟩) 1 1)).run Tryz.prog (W.alloc (.cells #[.int .u8 x] 5)) = .ok (.string ⟨#[b]⟩) (W.alloc (.cells #[.int .u8 x] 5)) := by
  have k := run_convert_bytes_back (P := Tryz.prog) (W.alloc (.cells #[.int .u8 x] 5)) 23 9 5 ⟨W.heap.size, 0, none⟩ 1 [b] Tryz.underlying23 Tryz.underlying5 Tryz.underlying9 (fun j hj => by
    obtain rfl : j = 0 := by simpa using hj
    rw [Lib.add_plain]
    exact tblk_cell (tblk_new _ _) (by simp [h]))
  exact k
def rxM (vn vo : Value) : Nat := (intOf vn).toNat + (match vo with | .string o => if o.size = 0 then 1 else 0 | _ => 0)
theorem rx_msr_lt {u u' : Nat} {o o' : ByteArray} (h : o.size = 0 ∨ 0 < u) (hu : u' ≤ u) (hd : 0 < u → u' < u) (ho : ¬ o'.size = 0) : rxM (.int .i64 u') (.string o') < rxM (.int .i64 u) (.string o) := by
  unfold rxM intOf
  simp only [Int.toNat_natCast]
  rw [if_neg ho]
  rcases h with h | h
  · rw [if_pos h]; omega
  · have := hd h; split <;> omega
theorem rx_cons_size (b : UInt8) (o : ByteArray) : ¬ ((⟨#[b]⟩ : ByteArray) ++ o).size = 0 := by
  have h : ((⟨#[b]⟩ : ByteArray) ++ o).data.toList.length ≠ 0 := by rw [rx_cons_data]; simp
  exact h
theorem rx_wrap64_in (x : Int) (h0 : 0 ≤ x) (h1 : x < 9223372036854775808) : wrap64 x = x := by unfold wrap64; omega
theorem rx_cons_size1 (b : UInt8) (o : ByteArray) : ((⟨#[b]⟩ : ByteArray) ++ o).size = o.size + 1 := by
  have h : ((⟨#[b]⟩ : ByteArray) ++ o).data.toList.length = o.data.toList.length + 1 := by rw [rx_cons_data]; simp
  exact h
theorem rx_u8_48 (d : Nat) (h : d < 200) : ((UInt8.ofNat (48 + d)).toNat : Int) = 48 + (d : Int) := by
  rw [UInt8.toNat_ofNat']; omega


set_option maxRecDepth 100000 in
set_option maxHeartbeats 4000000 in
theorem rtext_nat (n : Nat) (hn : n < 9223372036854775808) (w : World) :
    Calls Tryz.prog 82 #[.int .i64 n] w fun e w' => e = .returned (.string ⟨(Lib.decDigits n).toArray⟩) ∧ Below w.heap.size w w' := by
  have hne : ((n : Int) == -9223372036854775808) = false := beq_eq_false_iff_ne.2 (by omega)
  have h0 : ¬ (n : Int) < 0 := by omega
  go_enter Tryz.func82, Tryz.ntmps82
  go_wp2_with fail
  clear hne h0
  go_loopw [0, 3] (fun vn vo wr => ∃ (u f : Nat) (o : ByteArray), vn = .int .i64 u ∧ vo = .string o ∧ u < 9223372036854775808 ∧ f + o.size ≤ 20 ∧ Hid (u < 10 ^ f) ∧ Hid (RxJ n u o.data.toList) ∧ Below w.heap.size w wr) (fun vn vo _ => rxM vn vo)
  case atStart => exact ⟨n, 19, ⟨#[]⟩, rfl, rfl, hn, by decide, Nat.lt_of_lt_of_le hn (by decide), .inl ⟨rfl, rfl⟩, Below.refl _ _⟩
  case round =>
    obtain ⟨u, f, o, rfl, rfl, hu, hfo, hf, hj, hB⟩ := hrel
    have HU : Hid (u < 9223372036854775808) := hu
    clear hu
    have ho : (o.size : Int) ≤ 20 := by omega
    have HN : Hid (n < 9223372036854775808) := hn
    clear hn
    obtain ⟨b, hb1, hb2⟩ : ∃ b : UInt8, (b.toNat : Int) = 48 + (u : Int) % 10 ∧ b = UInt8.ofNat (48 + u % 10) := ⟨_, by rw [rx_u8_48 _ (by omega)]; omega, rfl⟩
    by_cases hz : o.size = 0
    · have hcv := rx_conv1 wr (48 + (u : Int) % 10) b hb1
      have hcat := fun W : World => run_string_add (P := Tryz.prog) (w := W) ⟨#[b]⟩ o (show ((1 : Nat) : Int) ≤ 8388608 by decide) (by omega)
      have HS : Hid (RxJ n (u / 10) ((⟨#[b]⟩ : ByteArray) ++ o).data.toList) := by
        rw [Hid, rx_cons_data, hb2]; exact rx_JD_step hj.out (.inl (List.eq_nil_of_length_eq_zero hz))
      have HF : Hid (∃ f', f' + ((⟨#[b]⟩ : ByteArray) ++ o).size ≤ 20 ∧ u / 10 < 10 ^ f') := by
        rw [Hid, rx_cons_size1]
        have h := hf.out
        cases f with
        | zero => exact ⟨0, by omega, by have : u < 1 := h; omega⟩
        | succ f' => exact ⟨f', by omega, by rw [Nat.pow_succ, Nat.mul_comm] at h; exact Nat.div_lt_of_lt_mul h⟩
      have HM : Hid (rxM (.int .i64 ((u / 10 : Nat) : Int)) (.string ((⟨#[b]⟩ : ByteArray) ++ o)) < rxM (.int .i64 (u : Int)) (.string o)) := rx_msr_lt (.inl hz) (by omega) (fun h => by omega) (rx_cons_size _ _)
      clear hb1 hb2
      have he := empty_of hz
      subst he
      go_wp2
      go_roundw
      case rel => obtain ⟨f', q1, q2⟩ := HF.out; have hu := HU.out; exact ⟨u / 10, f', _, by rw [rx_wrap64_in _ (by omega) (by omega)]; go_num, rfl, by omega, q1, q2, HS, hB.alloc hB.size _⟩
      case measure => have hu := HU.out; rw [rx_wrap64_in _ (by omega) (by omega)]; exact HM.out
    · by_cases hpos : (0 : Int) < (u : Int)
      · have hcv := rx_conv1 wr (48 + (u : Int) % 10) b hb1
        have hcat := fun W : World => run_string_add (P := Tryz.prog) (w := W) ⟨#[b]⟩ o (show ((1 : Nat) : Int) ≤ 8388608 by decide) (by omega)
        have HS : Hid (RxJ n (u / 10) ((⟨#[b]⟩ : ByteArray) ++ o).data.toList) := by
          rw [Hid, rx_cons_data, hb2]; exact rx_JD_step hj.out (.inr (by omega))
        have HF : Hid (∃ f', f' + ((⟨#[b]⟩ : ByteArray) ++ o).size ≤ 20 ∧ u / 10 < 10 ^ f') := by
          rw [Hid, rx_cons_size1]
          have h := hf.out
          cases f with
          | zero => exact ⟨0, by have : u < 1 := h; omega, by have : u < 1 := h; omega⟩
          | succ f' => exact ⟨f', by omega, by rw [Nat.pow_succ, Nat.mul_comm] at h; exact Nat.div_lt_of_lt_mul h⟩
        have HM : Hid (rxM (.int .i64 ((u / 10 : Nat) : Int)) (.string ((⟨#[b]⟩ : ByteArray) ++ o)) < rxM (.int .i64 (u : Int)) (.string o)) := rx_msr_lt (.inr (by omega)) (by omega) (fun h => by omega) (rx_cons_size _ _)
        clear hb1 hb2
        have hne2 := isEmpty_of hz
        clear hz
        go_wp2
        go_roundw
        case rel => obtain ⟨f', q1, q2⟩ := HF.out; have hu := HU.out; exact ⟨u / 10, f', _, by rw [rx_wrap64_in _ (by omega) (by omega)]; go_num, rfl, by omega, q1, q2, HS, hB.alloc hB.size _⟩
        case measure => have hu := HU.out; rw [rx_wrap64_in _ (by omega) (by omega)]; exact HM.out
      · have hu0 : u = 0 := by omega
        have HE : Hid (o = ⟨(Lib.decDigits n).toArray⟩) := by
          have h := hj.out
          rw [hu0] at h
          exact rx_bytes_ext (rx_JD_end h (fun e => hz (congrArg List.length e)))
        have hne2 := isEmpty_of hz
        clear hz hb1 hb2
        go_wp2
        go_ret
        exact ⟨rx_ret_s HE.out, hB⟩
theorem itoa_nat (n : Nat) : itoaS (n : Int) = ⟨(Lib.decDigits n).toArray⟩ := by
  unfold itoaS Lib.itoa
  rw [if_neg (by omega), Int.toNat_natCast]
theorem rtext_pos (n : Int) (h0 : 0 ≤ n) (h1 : n < 9223372036854775808) (w : World) : Calls Tryz.prog 82 #[.int .i64 n] w fun e w' => e = .returned (.string (itoaS n)) ∧ Below w.heap.size w w' := by
  obtain ⟨k, rfl⟩ : ∃ k : Nat, n = k := ⟨n.toNat, by omega⟩
  rw [itoa_nat]
  exact rtext_nat k (by omega) w
end Go.Proofs.YtajfjjmabncldaaGreatDoor

/- What the reference's reading of numbers answers of every text. -/
namespace Go.Proofs.YtajfjjmabncldaaGreatDoor
open Go.RowKit
set_option linter.unusedVariables false

def isD (c : Int) : Bool := decide (48 ≤ c) && decide (c ≤ 57)
theorem rdigit_any (c : Int) (w : World) : Calls Tryz.prog 157 #[.int .u8 c] w fun e w' => e = .returned (.bool (isD c)) ∧ w' = w := by
  unfold isD
  by_cases a : 48 ≤ c
  · by_cases b : c ≤ 57
    · go_enter Tryz.func157, Tryz.ntmps157
      go_wp2
      go_ret
      exact ⟨ret_b (by simp [a, b]), rfl⟩
    · go_enter Tryz.func157, Tryz.ntmps157
      go_wp2
      go_ret
      exact ⟨ret_b (by simp [b]), rfl⟩
  · go_enter Tryz.func157, Tryz.ntmps157
    go_wp2
    go_ret
    exact ⟨ret_b (by simp; omega), rfl⟩

end Go.Proofs.YtajfjjmabncldaaGreatDoor

/- The reference: what its Decimal answers of every text. -/
namespace Go.Proofs.YtajfjjmabncldaaGreatDoor
open Go.RowKit
set_option linter.unusedVariables false

set_option maxHeartbeats 1000000 in
theorem rdecimal_any (s : ByteArray) (w : World) (hs : s.size ≤ maxLen) :
    Calls Tryz.prog 123 #[.string s] w fun e w' => e = .returned (.tuple #[.int .i64 (numI 10 18 s), .bool (numB 10 18 s)]) ∧ w' = w := by
  unfold maxLen at hs
  by_cases hz : (s.size : Int) < 1
  · have E : Hid (numI 10 18 s = 0 ∧ numB 10 18 s = false) := num_out (.inl (by omega))
    go_enter Tryz.func123, Tryz.ntmps123
    go_wp2
    go_ret2
    exact ⟨ret2_ib E.out.1.symm E.out.2.symm, rfl⟩
  · by_cases hm : (18 : Int) < (s.size : Int)
    · have E : Hid (numI 10 18 s = 0 ∧ numB 10 18 s = false) := num_out (.inr (by omega))
      go_enter Tryz.func123, Tryz.ntmps123
      go_wp2
      go_ret2
      exact ⟨ret2_ib E.out.1.symm E.out.2.symm, rfl⟩
    · have hout : Hid (¬ (s.size = 0 ∨ 18 < s.size)) := by rw [Hid]; omega
      go_enter Tryz.func123, Tryz.ntmps123
      go_wp2
      go_loop [4, 5] (fun vn vi => ∃ k n : Nat, k ≤ s.size ∧ vi = .int .i64 k ∧ vn = .int .i64 n ∧ Hid (vN 10 (s.data.toList.take k) = some n)) (fun _ vi => s.size - (intOf vi).toNat)
      case atStart => exact ⟨0, 0, Nat.zero_le _, rfl, rfl, rfl⟩
      case round =>
        obtain ⟨k, n, hk, rfl, rfl, hv⟩ := hrel
        by_cases hlt : k < s.size
        · have bd := byte_bd s[k]
          have hn : n < 100000000000000000 := vN_take_lt 10 17 (by decide) s k (by omega) n hv.out
          have HD : Hid (((dgN s[k] : Nat) : Int) = dgI (s[k].toNat : Int)) := dgN_cast s[k]
          by_cases hb : 48 ≤ (s[k].toNat : Int) ∧ (s[k].toNat : Int) ≤ 57
          · have E1 : Hid (dgI (s[k].toNat : Int) = (s[k].toNat : Int) - 48) := by rw [Hid, dgI, if_pos hb]
            have E : Hid (vN 10 (s.data.toList.take (k + 1)) = some (n * 10 + dgN s[k])) := vN_next 10 s k hlt n hv.out (by have := HD.out; have := E1.out; omega)
            have ED : Hid (isD (s[k].toNat : Int) = true) := by rw [Hid, isD]; simp; omega
            obtain ⟨b0, b1⟩ := hb
            go_wp2_with fail
            refine (rdigit_any _ _).mono ?_
            rw [ED.out]
            rintro e w' ⟨rfl, rfl⟩
            go_wp2
            go_round
            case rel => exact ⟨k + 1, n * 10 + dgN s[k], by omega, by go_num, by have h1 := HD.out; have h2 := E1.out; rw [Int.natCast_add, Int.natCast_mul, h1, h2]; rfl, E⟩
            case measure => simp [intOf]; omega
          · have E : Hid (numI 10 18 s = 0 ∧ numB 10 18 s = false) := num_bad (vN_bad_at 10 s k hlt (by have h1 := HD.out; unfold dgI at h1; rw [if_neg hb] at h1; split at h1 <;> (try split at h1) <;> omega))
            have ED : Hid (isD (s[k].toNat : Int) = false) := by rw [Hid, isD]; simp; omega
            clear hb
            go_wp2_with fail
            refine (rdigit_any _ _).mono ?_
            rw [ED.out]
            rintro e w' ⟨rfl, rfl⟩
            go_wp2
            go_ret2
            exact ⟨ret2_ib E.out.1.symm E.out.2.symm, rfl⟩
        · go_wp2
          go_ret2
          have hk' : k = s.size := by omega
          subst hk'
          have h := hv.out
          rw [List.take_of_length_le (by simp)] at h
          exact ⟨ret2_ib (num_ok hout.out h).1.symm (num_ok hout.out h).2.symm, rfl⟩

end Go.Proofs.YtajfjjmabncldaaGreatDoor

/- The reference of package frame. -/
namespace Go.Proofs.YtajfjjmabncldaaGreatDoor
open Go.ChangeShapes Go.WideShapes Go.ChangeAt Go.RowKit
set_option linter.unusedVariables false

def lCL : ByteArray := ⟨#[99, 111, 110, 116, 101, 110, 116, 45, 108, 101, 110, 103, 116, 104]⟩
def lTE : ByteArray := ⟨#[116, 114, 97, 110, 115, 102, 101, 114, 45, 101, 110, 99, 111, 100, 105, 110, 103]⟩
def lCo : ByteArray := ⟨#[99, 111, 110, 110, 101, 99, 116, 105, 111, 110]⟩
theorem fold_CL : foldS lCL = foldS tCL := by decide +kernel
theorem fold_TE : foldS lTE = foldS tTE := by decide +kernel
theorem fold_Co : foldS lCo = foldS tCo := by decide +kernel
theorem thereF_congr {n n' : ByteArray} (h : foldS n = foldS n') (fs : Fs) : thereF fs n = thereF fs n' := by unfold thereF; rw [getF_congr h]
theorem hasF_congr {n n' : ByteArray} (h : foldS n = foldS n') (fs : Fs) (p : ByteArray) : hasF fs n p = hasF fs n' p := by unfold hasF; rw [listF_congr h]
theorem smCh (p : ByteArray) : smT p tCh = ((foldS p).toList == [99, 104, 117, 110, 107, 101, 100]) := by
  unfold smT
  rw [show (foldS tCh).toList = [99, 104, 117, 110, 107, 101, 100] by decide +kernel]

set_option maxHeartbeats 1000000 in
theorem rthere_any (fs : Fs) (a : Option Addr) (c : Nat) (name : ByteArray) (w : World) (hf : Fds w.heap.size w (.slice a fs.length c) fs) (hb : FBd 1048576 fs) (hn : name.size ≤ 1048576) (hl : fs.length ≤ 1024) :
    Calls Tryz.prog 85 #[.slice a fs.length c, .string name] w fun e w' => e = .returned (.bool (thereF fs name)) ∧ Below w.heap.size w w' := by
  have HG : Hid (Calls Tryz.prog 26 #[.slice a fs.length c, .string name] w fun e w' => ∃ ao cv, e = .returned (.slice ao (getF fs name).length cv) ∧ OwnT w.heap.size w' (.slice ao (getF fs name).length cv) (getF fs name) ∧ Below w.heap.size w w') := rget_any fs a c name w hf hb hn hl
  unfold thereF
  clear hf hb hn hl
  generalize getF fs name = vs at *
  go_enter Tryz.func85, Tryz.ntmps85
  go_wp2_with fail
  refine HG.out.mono ?_
  rintro e w1 ⟨ao1, cv1, rfl, own1, B1⟩
  clear own1 HG
  go_wp2
  go_ret
  exact ⟨ret_bool (by first | exact int_pos _ | simp), B1⟩

set_option maxHeartbeats 1000000 in
theorem rcoded_any (fs : Fs) (a : Option Addr) (c : Nat) (w : World) (hf : Fds w.heap.size w (.slice a fs.length c) fs) (hb : FBd 1048576 fs) (hl : fs.length ≤ 1024) :
    Calls Tryz.prog 87 #[.slice a fs.length c] w fun e w' => e = .returned (.bool (chunkedF fs)) ∧ Below w.heap.size w w' := by
  have HL0 := rlist_any fs a c lTE w hf hb (by decide) hl
  rw [listF_congr fold_TE] at HL0
  have HL : Hid (Calls Tryz.prog 22 #[.slice a fs.length c, .string ⟨#[116, 114, 97, 110, 115, 102, 101, 114, 45, 101, 110, 99, 111, 100, 105, 110, 103]⟩] w fun e w' => ∃ ao cv, e = .returned (.slice ao (listF fs tTE).length cv) ∧ OwnT w.heap.size w' (.slice ao (listF fs tTE).length cv) (listF fs tTE) ∧ Below w.heap.size w w') := HL0
  have HBD : Hid (TBd 1048576 (listF fs tTE)) := listF_bd hb
  unfold chunkedF
  clear hf hb hl HL0
  generalize listF fs tTE = xs at *
  generalize hck : chunkL xs = ck
  have HCK : Hid (chunkL xs = ck) := hck
  clear hck
  go_enter Tryz.func87, Tryz.ntmps87
  go_wp2_with fail
  refine HL.out.mono ?_
  rintro e w1 ⟨ao1, cv1, rfl, own1, B1⟩
  have T1 := own1.txs
  clear own1 HL
  match xs, T1, HBD, HCK with
  | [], _, _, HCK =>
    go_wp2
    go_ret
    exact ⟨ret_bool HCK.out, B1⟩
  | [p], T1, HBD, HCK =>
    obtain ⟨a', c', e, hnil, q1, q2, q3⟩ := T1
    obtain ⟨rfl, _, rfl⟩ := slice_inj e
    obtain ⟨g, off, rfl, hg, hc⟩ := q3 Nat.one_pos
    have hc0 : w1.cell? ⟨g, off, none⟩ = some (.string p) := hc 0 Nat.one_pos
    have HS : Hid (∀ W, Calls Tryz.prog 23 #[.string p] W fun e w' => e = .returned (.string (foldS p)) ∧ Below W.heap.size W w') := fun W => rfold_any p W (by have := HBD.out p (List.mem_cons_self ..); omega)
    have HK2 : Hid (((foldS p).toList == [99, 104, 117, 110, 107, 101, 100]) = ck) := by rw [Hid, ← smCh]; exact HCK.out
    clear e hnil q1 q2 q3 hc HBD HCK
    generalize foldS p = b at *
    go_wp2_with fail
    refine (HS.out _).mono ?_
    rintro e w2 ⟨rfl, B2⟩
    go_wp2
    go_ret
    exact ⟨ret_bool HK2.out, B1.trans (B2.mono B1.size)⟩
  | p :: q :: r, _, _, HCK =>
    have HK2 : Hid (false = ck) := HCK.out
    have h1 : ¬ (((p :: q :: r).length : Int) = 1) := by simp only [List.length_cons]; omega
    have h2 : (((p :: q :: r).length : Int) == 1) = false := by simpa using h1
    clear h1 HCK
    generalize (p :: q :: r).length = n at *
    go_wp2
    go_ret
    exact ⟨ret_bool HK2.out, B1⟩

theorem lenL_cons (p : ByteArray) (r : List ByteArray) : lenL (p :: r) = if sameN (numI 10 18 p) (p :: r) = true then (numI 10 18 p, true) else (0, false) := by
  unfold lenL
  have e : sameN (numI 10 18 p) (p :: r) = (numB 10 18 p && sameN (numI 10 18 p) r) := by
    unfold sameN
    rw [List.all_cons]
    simp
  rw [e]
theorem sameN_bad {f : Int} {ps : List ByteArray} {k : Nat} (h : k < ps.length) (hb : (numB 10 18 ps[k] && decide (numI 10 18 ps[k] = f)) = false) : sameN f ps = false := by
  unfold sameN
  rw [List.all_eq_false]
  exact ⟨ps[k], List.getElem_mem h, by simpa using hb⟩

set_option maxRecDepth 100000 in
set_option maxHeartbeats 1000000 in
theorem rlength_any (fs : Fs) (a : Option Addr) (c : Nat) (w : World) (hf : Fds w.heap.size w (.slice a fs.length c) fs) (hb : FBd 1048576 fs) (hl : fs.length ≤ 1024) :
    Calls Tryz.prog 86 #[.slice a fs.length c] w fun e w' => e = .returned (.tuple #[.int .i64 (lengthF fs).1, .bool (lengthF fs).2]) ∧ Below w.heap.size w w' := by
  have HL0 := rlist_any fs a c lCL w hf hb (by decide) hl
  rw [listF_congr fold_CL] at HL0
  have HL : Hid (Calls Tryz.prog 22 #[.slice a fs.length c, .string ⟨#[99, 111, 110, 116, 101, 110, 116, 45, 108, 101, 110, 103, 116, 104]⟩] w fun e w' => ∃ ao cv, e = .returned (.slice ao (listF fs tCL).length cv) ∧ OwnT w.heap.size w' (.slice ao (listF fs tCL).length cv) (listF fs tCL) ∧ Below w.heap.size w w') := HL0
  have HBD : Hid (TBd 1048576 (listF fs tCL)) := listF_bd hb
  have HLN : Hid ((listF fs tCL).length ≤ 1024 * 1048578) := listF_len hb hl
  unfold lengthF
  clear hf hb hl HL0
  generalize listF fs tCL = xs at *
  generalize hck : lenL xs = ck
  have HCK : Hid (lenL xs = ck) := hck
  clear hck
  obtain ⟨n, r⟩ := ck
  go_enter Tryz.func86, Tryz.ntmps86
  go_wp2_with fail
  refine HL.out.mono ?_
  rintro e w1 ⟨ao1, cv1, rfl, own1, B1⟩
  have T1 := own1.txs
  clear own1 HL
  match xs, T1, HBD, HCK, HLN with
  | [], _, _, HCK, _ =>
    have HK2 : Hid ((0, false) = (n, r)) := HCK.out
    clear HCK
    go_wp2
    go_ret2
    exact ⟨ret2_ib (congrArg Prod.fst HK2.out) (congrArg Prod.snd HK2.out), B1⟩
  | p :: ps, T1, HBD, HCK, HLN =>
    obtain ⟨a', c', e, hnil, q1, q2, q3⟩ := T1
    obtain ⟨rfl, _, rfl⟩ := slice_inj e
    obtain ⟨g, off, rfl, hg, hc⟩ := q3 (Nat.zero_lt_succ _)
    have hc0 : w1.cell? ⟨g, off, none⟩ = some (.string p) := hc 0 (Nat.zero_lt_succ _)
    have HC : Hid (∀ (j : Nat) (hj : j < (p :: ps).length), w1.cell? ⟨g, off + j, none⟩ = some (.string (p :: ps)[j])) := hc
    have HS : Hid (∀ x ∈ p :: ps, ∀ W, Calls Tryz.prog 123 #[.string x] W fun e w' => e = .returned (.tuple #[.int .i64 (numI 10 18 x), .bool (numB 10 18 x)]) ∧ w' = W) := fun x hx W => rdecimal_any x W (by have := HBD.out x hx; unfold maxLen; omega)
    have HK2 : Hid ((if sameN (numI 10 18 p) (p :: ps) = true then (numI 10 18 p, true) else (0, false)) = (n, r)) := by rw [Hid, ← lenL_cons]; exact HCK.out
    have HS0 : Hid (∀ W, Calls Tryz.prog 123 #[.string p] W fun e w' => e = .returned (.tuple #[.int .i64 (numI 10 18 p), .bool (numB 10 18 p)]) ∧ w' = W) := HS.out p (List.mem_cons_self ..)
    have HB0 : Hid (sameN (numI 10 18 p) (p :: ps) = true → numB 10 18 p = true) := fun h => by
      unfold sameN at h
      rw [List.all_cons] at h
      simp at h
      exact h.1
    have hln : (p :: ps).length ≤ 1073743872 := HLN.out
    have hpos : 0 < (p :: ps).length := Nat.zero_lt_succ _
    clear e hnil q1 q3 hc HBD HCK HLN
    have hz : ¬ (((p :: ps).length : Int) = 0) := by omega
    have hz2 : (((p :: ps).length : Int) == 0) = false := by simpa using hz
    clear hz
    generalize numI 10 18 p = f at *
    generalize numB 10 18 p = b at *
    generalize hq : p :: ps = Q at *
    clear hq
    go_wp2_with fail
    refine (HS0.out _).mono ?_
    rintro e w2 ⟨rfl, rfl⟩
    clear HS0 hc0
    go_wp2_with fail
    go_loop [7] (fun vi => ∃ k : Nat, k ≤ Q.length ∧ vi = .int .i64 k ∧ Hid (sameN f (Q.take k) = true)) (fun vi => Q.length - (intOf vi).toNat)
    case atStart => exact ⟨0, Nat.zero_le _, rfl, rfl⟩
    case round =>
      obtain ⟨k, hk, rfl, hA⟩ := hrel
      by_cases hlt : k < Q.length
      · have hc1 := HC.out k hlt
        have hY : Hid ((numB 10 18 Q[k] && decide (numI 10 18 Q[k] = f)) = true → sameN f (Q.take (k + 1)) = true) := fun q => by rw [sameN_snoc hlt, hA.out, q]; rfl
        have hN : Hid ((numB 10 18 Q[k] && decide (numI 10 18 Q[k] = f)) = false → sameN f Q = false) := fun q => sameN_bad hlt q
        have HX : Hid (∀ W, Calls Tryz.prog 123 #[.string Q[k]] W fun e w' => e = .returned (.tuple #[.int .i64 (numI 10 18 Q[k]), .bool (numB 10 18 Q[k])]) ∧ w' = W) := HS.out Q[k] (List.getElem_mem hlt)
        generalize numI 10 18 Q[k] = nx at *
        generalize numB 10 18 Q[k] = nb at *
        generalize Q[k] = x at *
        cases nb
        · have HK3 : Hid ((0, false) = (n, r)) := by
            have h := HK2.out
            rw [hN.out rfl] at h
            exact h
          clear hY hN HK2
          go_wp2_with fail
          refine (HX.out _).mono ?_
          rintro e w3 ⟨rfl, rfl⟩
          go_wp2
          go_ret2
          exact ⟨ret2_ib (congrArg Prod.fst HK3.out) (congrArg Prod.snd HK3.out), B1⟩
        · by_cases hx : nx = f
          · subst hx
            have hY2 : Hid (sameN nx (Q.take (k + 1)) = true) := hY.out (by simp)
            clear hY hN
            go_wp2_with fail
            refine (HX.out _).mono ?_
            rintro e w3 ⟨rfl, rfl⟩
            go_wp2
            go_round
            case rel => exact ⟨k + 1, by omega, by go_num, hY2⟩
            case measure => simp [intOf]; omega
          · have HK3 : Hid ((0, false) = (n, r)) := by
              have h := HK2.out
              rw [hN.out (by rw [decide_eq_false hx]; rfl)] at h
              exact h
            have hx2 : (nx != f) = true := by simpa using hx
            clear hY hN HK2 hx
            go_wp2_with fail
            refine (HX.out _).mono ?_
            rintro e w3 ⟨rfl, rfl⟩
            go_wp2
            go_ret2
            exact ⟨ret2_ib (congrArg Prod.fst HK3.out) (congrArg Prod.snd HK3.out), B1⟩
      · have hk' : k = Q.length := by omega
        subst hk'
        have hA2 := hA.out
        rw [List.take_length] at hA2
        have HK3 : Hid ((f, true) = (n, r)) := by
          have h := HK2.out
          rw [hA2] at h
          exact h
        have hb2 : b = true := HB0.out hA2
        subst hb2
        clear hA2 HK2 HB0
        go_wp2
        go_ret2
        exact ⟨ret2_ib (congrArg Prod.fst HK3.out) (congrArg Prod.snd HK3.out), B1⟩
end Go.Proofs.YtajfjjmabncldaaGreatDoor

/- The reference's Response (frame). -/
namespace Go.Proofs.YtajfjjmabncldaaGreatDoor
open Go.ChangeShapes Go.WideShapes Go.ChangeAt Go.RowKit
set_option linter.unusedVariables false

def respP (E : Int × Int × Int) : Int × Int × Bool := (E.1, E.2.1, decide (E.2.2 = 0))
/-- The response's own block stays. -/
structure RI (w : World) (o : Obj) (W : World) : Prop where
  below : Below w.heap.size w W
  blk : W.heap[w.heap.size]? = some o
theorem RI.drew {w W : World} {o : Obj} (h : RI w o W) : RI w o W.drew := ⟨h.below.drew, h.blk⟩
theorem RI.next {w W W' : World} {o : Obj} (h : RI w o W) (b : Below W.heap.size W W') : RI w o W' := ⟨h.below.trans (b.mono h.below.size), tblk_below h.blk b⟩

set_option maxRecDepth 100000 in
set_option maxHeartbeats 2000000 in
theorem rresp_full (m reason : ByteArray) (code minor : Int) (fs : Fs) (a b : Option Addr) (c x y : Nat) (w : World) (h : bareF m code = false) (hf : Fds w.heap.size w (.slice a fs.length c) fs) (hb : FBd 1048576 fs) (hl : fs.length ≤ 1024) :
    Calls Tryz.prog 51 #[.string m, .agg #[.int .i64 code, .string reason, .int .i64 minor, .slice a fs.length c, .slice b x y]] w fun e w' => e = .returned (.tuple #[.int .i64 (toldF fs minor).1, .int .i64 (toldF fs minor).2.1, .bool (decide ((toldF fs minor).2.2 = 0))]) ∧ Below w.heap.size w w' := by
  have q : ¬ m = ⟨#[72, 69, 65, 68]⟩ ∧ ¬ code < 200 ∧ ¬ code = 204 ∧ ¬ code = 304 := by
    unfold bareF at h
    simp at h
    exact ⟨h.1.1.1, by omega, h.1.2, h.2⟩
  obtain ⟨p1, q2, p3, p4⟩ := q
  have q1 : (m.toList == [72, 69, 65, 68]) = false := by
    rw [ByteArray.toList_eq, beq_eq_false_iff_ne]
    intro e
    exact p1 (ByteArray.ext (Array.toList_inj.1 e))
  have q3 : (code == 204) = false := by simpa using p3
  have q4 : (code == 304) = false := by simpa using p4
  have I0 : RI w (.cells #[.int .i64 code, .string reason, .int .i64 minor, .slice a fs.length c, .slice b x y] 40) (w.alloc (.cells #[.int .i64 code, .string reason, .int .i64 minor, .slice a fs.length c, .slice b x y] 40)) := ⟨(Below.refl _ _).alloc (Nat.le_refl _) _, tblk_new _ _⟩
  have H1 : Hid (∀ W, RI w (.cells #[.int .i64 code, .string reason, .int .i64 minor, .slice a fs.length c, .slice b x y] 40) W → Calls Tryz.prog 85 #[.slice a fs.length c, .string ⟨#[99, 111, 110, 116, 101, 110, 116, 45, 108, 101, 110, 103, 116, 104]⟩] W fun e w' => e = .returned (.bool (thereF fs tCL)) ∧ RI w (.cells #[.int .i64 code, .string reason, .int .i64 minor, .slice a fs.length c, .slice b x y] 40) w' ∧ w'.cell? ⟨w.heap.size, 3, none⟩ = some (.slice a fs.length c)) := fun W i => by
    have k := rthere_any fs a c lCL W (hf.over i.below) hb (by decide) hl
    rw [thereF_congr fold_CL] at k
    exact k.mono fun e w' z => ⟨z.1, i.next z.2, tblk_cell (i.next z.2).blk rfl⟩
  have H2 : Hid (∀ W, RI w (.cells #[.int .i64 code, .string reason, .int .i64 minor, .slice a fs.length c, .slice b x y] 40) W → Calls Tryz.prog 85 #[.slice a fs.length c, .string ⟨#[116, 114, 97, 110, 115, 102, 101, 114, 45, 101, 110, 99, 111, 100, 105, 110, 103]⟩] W fun e w' => e = .returned (.bool (thereF fs tTE)) ∧ RI w (.cells #[.int .i64 code, .string reason, .int .i64 minor, .slice a fs.length c, .slice b x y] 40) w' ∧ w'.cell? ⟨w.heap.size, 3, none⟩ = some (.slice a fs.length c)) := fun W i => by
    have k := rthere_any fs a c lTE W (hf.over i.below) hb (by decide) hl
    rw [thereF_congr fold_TE] at k
    exact k.mono fun e w' z => ⟨z.1, i.next z.2, tblk_cell (i.next z.2).blk rfl⟩
  have H3 : Hid (∀ W, RI w (.cells #[.int .i64 code, .string reason, .int .i64 minor, .slice a fs.length c, .slice b x y] 40) W → Calls Tryz.prog 87 #[.slice a fs.length c] W fun e w' => e = .returned (.bool (chunkedF fs)) ∧ RI w (.cells #[.int .i64 code, .string reason, .int .i64 minor, .slice a fs.length c, .slice b x y] 40) w') := fun W i => (rcoded_any fs a c W (hf.over i.below) hb hl).mono fun e w' z => ⟨z.1, i.next z.2⟩
  have H4 : Hid (∀ W, RI w (.cells #[.int .i64 code, .string reason, .int .i64 minor, .slice a fs.length c, .slice b x y] 40) W → Calls Tryz.prog 86 #[.slice a fs.length c] W fun e w' => e = .returned (.tuple #[.int .i64 (lengthF fs).1, .bool (lengthF fs).2]) ∧ RI w (.cells #[.int .i64 code, .string reason, .int .i64 minor, .slice a fs.length c, .slice b x y] 40) w') := fun W i => (rlength_any fs a c W (hf.over i.below) hb hl).mono fun e w' z => ⟨z.1, i.next z.2⟩
  have hbd := lenL_bd (listF fs tCL)
  have hbd2 : 0 ≤ (lengthF fs).1 ∧ (lengthF fs).1 < 1000000000000000000 := hbd
  have e0 : ((toldF fs minor).1, (toldF fs minor).2.1, decide ((toldF fs minor).2.2 = 0)) = respP (toldP (thereF fs tTE) (thereF fs tCL) (chunkedF fs) (lengthF fs) minor) := rfl
  generalize hE : ((toldF fs minor).1, (toldF fs minor).2.1, decide ((toldF fs minor).2.2 = 0)) = E at e0
  obtain ⟨E1, E2, E3⟩ := E
  injection hE with g1 hE
  injection hE with g2 g3
  rw [g1, g2, g3]
  have HE : Hid (respP (toldP (thereF fs tTE) (thereF fs tCL) (chunkedF fs) (lengthF fs) minor) = (E1, E2, E3)) := e0.symm
  have SS : (w.alloc (.cells #[.int .i64 code, .string reason, .int .i64 minor, .slice a fs.length c, .slice b x y] 40)).cell? ⟨w.heap.size, 3, none⟩ = some (.slice a fs.length c) := tblk_cell I0.blk rfl
  clear hf hb hl hbd e0 g1 g2 g3 h p1 p3 p4
  generalize thereF fs tTE = te at *
  generalize thereF fs tCL = cl at *
  generalize chunkedF fs = ch at *
  generalize lengthF fs = ln at *
  obtain ⟨n, r⟩ := ln
  simp only at H4 hbd2
  obtain ⟨b1, b2⟩ := hbd2
  go_enter Tryz.func51, Tryz.ntmps51
  go_wp2_with fail
  go_region_held3 (fun W => W.cell? ⟨w.heap.size, 3, none⟩ = some (.slice a fs.length c)) (go_keep) (first | (go_at_call 85; refine (H1.out _ (by first | assumption | exact RI.drew I0 | exact RI.drew (by assumption))).mono ?_; rintro e w' ⟨rfl, hI, hS⟩) | (go_at_call 85; refine (H2.out _ (by first | assumption | exact RI.drew I0 | exact RI.drew (by assumption))).mono ?_; rintro e w' ⟨rfl, hI, hS⟩))
  go_wp2_with fail
  refine (H4.out _ (by first | assumption | exact RI.drew (by assumption))).mono ?_
  rintro e w4 ⟨rfl, I4⟩
  have c2 : w4.cell? ⟨w.heap.size, 2, none⟩ = some (.int .i64 minor) := tblk_cell I4.blk rfl
  have c3 : w4.cell? ⟨w.heap.size, 3, none⟩ = some (.slice a fs.length c) := tblk_cell I4.blk rfl
  clear H1 H2 H4 SS I0
  cases te
  · cases cl
    · have HK : Hid ((3, 0, true) = (E1, E2, E3)) := HE.out
      clear HE
      go_wp2
      go_ret3
      exact ⟨ret3_iib (congrArg Prod.fst HK.out) (congrArg (·.2.1) HK.out) (congrArg (·.2.2) HK.out), I4.below⟩
    · cases r
      · have HK : Hid ((0, 0, false) = (E1, E2, E3)) := HE.out
        clear HE
        go_wp2
        go_ret3
        exact ⟨ret3_iib (congrArg Prod.fst HK.out) (congrArg (·.2.1) HK.out) (congrArg (·.2.2) HK.out), I4.below⟩
      · by_cases hn : 4096 < n
        · have HK : Hid ((0, 0, false) = (E1, E2, E3)) := by
            have k := HE.out
            unfold toldP at k
            simp only [Bool.false_and, Bool.false_eq_true, if_false, Bool.true_eq_false, if_pos hn] at k
            exact k
          clear HE
          go_wp2
          go_ret3
          exact ⟨ret3_iib (congrArg Prod.fst HK.out) (congrArg (·.2.1) HK.out) (congrArg (·.2.2) HK.out), I4.below⟩
        · have HK : Hid ((1, n, true) = (E1, E2, E3)) := by
            have k := HE.out
            unfold toldP at k
            simp only [Bool.false_and, Bool.false_eq_true, if_false, Bool.true_eq_false, if_neg hn] at k
            exact k
          clear HE
          go_wp2
          go_ret3
          exact ⟨ret3_iib (congrArg Prod.fst HK.out) (congrArg (·.2.1) HK.out) (congrArg (·.2.2) HK.out), I4.below⟩
  · cases cl
    · by_cases hm : minor = 0
      · subst hm
        have HK : Hid ((0, 0, false) = (E1, E2, E3)) := HE.out
        clear HE
        go_wp2
        go_ret3
        exact ⟨ret3_iib (congrArg Prod.fst HK.out) (congrArg (·.2.1) HK.out) (congrArg (·.2.2) HK.out), I4.below⟩
      · have hm2 : (minor == 0) = false := by simpa using hm
        have hm3 : decide (minor = 0) = false := decide_eq_false hm
        have HE2 : Hid (respP (if ch = true then ((2 : Int), (0 : Int), (0 : Int)) else (0, 0, 501)) = (E1, E2, E3)) := by
          have k := HE.out
          unfold toldP at k
          rw [hm3] at k
          exact k
        clear hm hm3
        cases ch
        · have HK : Hid ((0, 0, false) = (E1, E2, E3)) := HE2.out
          clear HE HE2
          go_wp2_with fail
          refine (H3.out _ I4).mono ?_
          rintro e w5 ⟨rfl, I5⟩
          go_wp2
          go_ret3
          exact ⟨ret3_iib (congrArg Prod.fst HK.out) (congrArg (·.2.1) HK.out) (congrArg (·.2.2) HK.out), I5.below⟩
        · have HK : Hid ((2, 0, true) = (E1, E2, E3)) := HE2.out
          clear HE HE2
          go_wp2_with fail
          refine (H3.out _ I4).mono ?_
          rintro e w5 ⟨rfl, I5⟩
          go_wp2
          go_ret3
          exact ⟨ret3_iib (congrArg Prod.fst HK.out) (congrArg (·.2.1) HK.out) (congrArg (·.2.2) HK.out), I5.below⟩
    · have HK : Hid ((0, 0, false) = (E1, E2, E3)) := HE.out
      clear HE
      go_wp2
      go_ret3
      exact ⟨ret3_iib (congrArg Prod.fst HK.out) (congrArg (·.2.1) HK.out) (congrArg (·.2.2) HK.out), I4.below⟩

set_option maxHeartbeats 1000000 in
theorem rresp_bare (m reason : ByteArray) (code minor : Int) (a b : Option Addr) (n c x y : Nat) (w : World) (h : bareF m code = true) :
    Calls Tryz.prog 51 #[.string m, .agg #[.int .i64 code, .string reason, .int .i64 minor, .slice a n c, .slice b x y]] w fun e w' => e = .returned (.tuple #[.int .i64 0, .int .i64 0, .bool true]) ∧ Below w.heap.size w w' := by
  have C1 : Below w.heap.size w (w.alloc (.cells #[.int .i64 code, .string reason, .int .i64 minor, .slice a n c, .slice b x y] 40)) := (Below.refl _ _).alloc (Nat.le_refl _) _
  by_cases p1 : m = ⟨#[72, 69, 65, 68]⟩
  · subst p1
    clear h
    go_enter Tryz.func51, Tryz.ntmps51
    go_wp2
    go_ret3
    exact ⟨rfl, C1⟩
  · have q1 : (m.toList == [72, 69, 65, 68]) = false := by
      rw [ByteArray.toList_eq, beq_eq_false_iff_ne]
      intro e
      exact p1 (ByteArray.ext (Array.toList_inj.1 e))
    by_cases p2 : code < 200
    · clear h p1
      go_enter Tryz.func51, Tryz.ntmps51
      go_wp2
      go_ret3
      exact ⟨rfl, C1⟩
    · by_cases p3 : code = 204
      · subst p3
        clear h p1
        go_enter Tryz.func51, Tryz.ntmps51
        go_wp2
        go_ret3
        exact ⟨rfl, C1⟩
      · have p4 : code = 304 := by
          unfold bareF at h
          simp [p1, p2, p3] at h
          exact h
        subst p4
        clear h p1 p3
        go_enter Tryz.func51, Tryz.ntmps51
        go_wp2
        go_ret3
        exact ⟨rfl, C1⟩
theorem rresponse_any (m reason : ByteArray) (code minor : Int) (fs : Fs) (a b : Option Addr) (c x y : Nat) (w : World) (hf : Fds w.heap.size w (.slice a fs.length c) fs) (hb : FBd 1048576 fs) (hl : fs.length ≤ 1024) :
    Calls Tryz.prog 51 #[.string m, .agg #[.int .i64 code, .string reason, .int .i64 minor, .slice a fs.length c, .slice b x y]] w fun e w' => e = .returned (.tuple #[.int .i64 (respF m code minor fs).1, .int .i64 (respF m code minor fs).2.1, .bool (respF m code minor fs).2.2]) ∧ Below w.heap.size w w' := by
  unfold respF
  cases h : bareF m code
  · rw [if_neg (by decide)]
    exact rresp_full m reason code minor fs a b c x y w h hf hb hl
  · rw [if_pos rfl]
    exact rresp_bare m reason code minor a b fs.length c x y w h

end Go.Proofs.YtajfjjmabncldaaGreatDoor

/- Join: two lists, one behind the other. -/
namespace Go.Proofs.YtajfjjmabncldaaGreatDoor
open Go.RowKit
set_option linter.unusedVariables false

set_option maxRecDepth 100000 in
set_option maxHeartbeats 4000000 in
theorem join_any (X Y : List UInt8) (k1 k2 : Nat) (v1 v2 : Value) (w : World) (h1 : Src w k1 v1 X) (hk1 : 0 < X.length → k1 < w.heap.size) (h2 : Src w k2 v2 Y) (hk2 : 0 < Y.length → k2 < w.heap.size) (hmax : X.length + Y.length ≤ 140737488355328) :
    Calls Tryz.prog 46 #[v1, v2] w fun e w' => ∃ v', e = .returned v' ∧ Own w.heap.size w' v' (X ++ Y) ∧ Below w.heap.size w w' := by
  have HX : Hid (Src w k1 v1 X) := h1
  have HY : Hid (Src w k2 v2 Y) := h2
  obtain ⟨a1, c1, rfl, p1, q1, f1⟩ := h1
  obtain ⟨a2, c2, rfl, p2, q2, f2⟩ := h2
  have F1 : Hid (0 < X.length → ∃ off, a1 = some ⟨k1, off, none⟩ ∧ ∀ (j : Nat) (hj : j < X.length), w.cell? ⟨k1, off + j, none⟩ = some (bv X[j])) := f1
  have F2 : Hid (0 < Y.length → ∃ off, a2 = some ⟨k2, off, none⟩ ∧ ∀ (j : Nat) (hj : j < Y.length), w.cell? ⟨k2, off + j, none⟩ = some (bv Y[j])) := f2
  obtain ⟨n, hn⟩ : ∃ n, n = X.length := ⟨_, rfl⟩
  obtain ⟨m, hm⟩ : ∃ m, m = Y.length := ⟨_, rfl⟩
  rw [← hn, ← hm]
  rw [← hn] at hmax hk1
  rw [← hm] at hmax hk2
  have HN : Hid (n = X.length) := hn
  have HM : Hid (m = Y.length) := hm
  have HK1 : Hid (0 < n → k1 < w.heap.size) := hk1
  have HK2 : Hid (0 < m → k2 < w.heap.size) := hk2
  clear f1 f2 hn hm p1 q1 p2 q2 hk1 hk2 HX HY
  have O0 := Own.empty w.heap.size w (Nat.le_refl _)
  have B0 : Below w.heap.size w (w.alloc (.cells #[] 5)) := (Below.refl _ _).alloc (Nat.le_refl _) _
  go_enter Tryz.func46, Tryz.ntmps46
  go_wp2_with fail
  go_loopw [5, 6] (fun v5 vi wr => ∃ k : Nat, k ≤ n ∧ vi = .int .i64 k ∧ Hid (Own w.heap.size wr v5 (X.take k)) ∧ Below w.heap.size w wr) (fun _ vi _ => n - (intOf vi).toNat)
  case atStart => exact ⟨0, Nat.zero_le _, rfl, (by rw [List.take_zero]; exact O0), B0⟩
  case round =>
    obtain ⟨k, hk, rfl, hO, hB⟩ := hrel
    clear O0 B0
    by_cases hlt : k < n
    · have hlX : k < X.length := by have := HN.out; omega
      obtain ⟨off, rfl, hc⟩ := F1.out (by omega)
      have hcell : wr.cell? ⟨k1, off + k, none⟩ = some (.int .u8 (X[k].toNat : Int)) := (hB.cell (p := ⟨k1, off + k, none⟩) (HK1.out (by omega))).trans (hc k hlX)
      have BA : Below wr.heap.size wr (wr.alloc (.cells #[.int .u8 (X[k].toNat : Int)] 5)) := (Below.refl _ _).alloc (Nat.le_refl _) _
      have hsn : X.take (k + 1) = X.take k ++ [X[k]] := List.take_succ_eq_append_getElem hlX
      obtain ⟨v3, w3, r3, O3, B3⟩ := own_append (hO.out.keep BA) (lit_src wr [X[k]] 1 #[.int .u8 (X[k].toNat : Int)] (0, 0) rfl (by decide) rfl) (fun e => by cases e) (by rw [List.length_take]; show _ + 1 ≤ _; omega) (Nat.le_trans hB.size BA.size)
      rw [← hsn] at O3
      have HO3 : Hid (Own w.heap.size w3 v3 (X.take (k + 1))) := O3
      have C3 := (hB.trans (BA.mono hB.size)).trans B3
      clear O3 B3 BA hsn hc hO
      generalize (X[k].toNat : Int) = z at *
      go_wp2_with (at_builtin; refine wpList_append_run2 rfl _ _ 23 23 rfl _ _ _ w3 rfl rfl r3 ?_)
      go_roundw
      case rel => exact ⟨k + 1, by omega, by go_num, HO3, C3⟩
      case measure => simp [intOf]; omega
    · have hO2 := hO.out
      rw [List.take_of_length_le (by have := HN.out; omega)] at hO2
      have HB1 : Hid (Below w.heap.size w wr) := hB
      clear hO hB
      go_wp2_with fail
      go_loopw [5, 7] (fun v5 vi wx => ∃ j : Nat, j ≤ m ∧ vi = .int .i64 j ∧ Hid (Own w.heap.size wx v5 (X ++ Y.take j)) ∧ Below w.heap.size w wx) (fun _ vi _ => m - (intOf vi).toNat)
      case atStart => exact ⟨0, Nat.zero_le _, rfl, (by rw [List.take_zero, List.append_nil]; exact hO2), HB1.out⟩
      case round =>
        obtain ⟨j, hj, rfl, hO, hB⟩ := hrel
        clear hO2 HB1
        by_cases hjm : j < m
        · have hlY : j < Y.length := by have := HM.out; omega
          obtain ⟨off, rfl, hc⟩ := F2.out (by omega)
          have hcell := (hB.cell (p := ⟨k2, off + j, none⟩) (HK2.out (by omega))).trans (hc j hlY)
          have BA := fun W : World => (Below.refl W.heap.size W).alloc (Nat.le_refl _) (.cells #[.int .u8 (Y[j].toNat : Int)] 5)
          have hsn : Y.take (j + 1) = Y.take j ++ [Y[j]] := List.take_succ_eq_append_getElem hlY
          obtain ⟨v3, w3, r3, O3, B3⟩ := own_append (hO.out.keep (BA _)) (lit_src _ [Y[j]] 1 #[.int .u8 (Y[j].toNat : Int)] (0, 0) rfl (by decide) rfl) (fun e => by cases e) (by rw [List.length_append, List.length_take]; have := HN.out; show _ + 1 ≤ _; omega) (Nat.le_trans hB.size (BA _).size)
          rw [List.append_assoc, ← hsn] at O3
          have HO3 : Hid (Own w.heap.size w3 v3 (X ++ Y.take (j + 1))) := O3
          have C3 := (hB.trans ((BA _).mono hB.size)).trans B3
          clear O3 B3 BA hsn hc hO
          unfold bv at hcell
          generalize (Y[j].toNat : Int) = z at *
          go_wp2_with (at_builtin; refine wpList_append_run2 rfl _ _ 23 23 rfl _ _ _ w3 rfl rfl r3 ?_)
          go_roundw
          case rel => exact ⟨j + 1, by omega, by go_num, HO3, C3⟩
          case measure => simp [intOf]; omega
        · have h := hO.out
          rw [List.take_of_length_le (by have := HM.out; omega)] at h
          clear hO
          go_wp2
          go_ret
          exact ⟨_, rfl, h, hB⟩
end Go.Proofs.YtajfjjmabncldaaGreatDoor

/- Package line: codeOf and isReason (split off LnB). -/
namespace Go.Proofs.YtajfjjmabncldaaGreatDoor
open Go.RowKit
set_option linter.unusedVariables false

/-- A code of three digits. -/
def codP (s : ByteArray) : Int × Bool := if numB 10 18 s = true ∧ s.size = 3 ∧ 100 ≤ numI 10 18 s ∧ numI 10 18 s ≤ 599 then (numI 10 18 s, true) else (0, false)
set_option maxHeartbeats 1000000 in
theorem codeof_any (s : ByteArray) (w : World) (hs : s.size ≤ maxLen) : Calls Tryz.prog 148 #[.string s] w fun e w' => e = .returned (.tuple #[.int .i64 (codP s).1, .bool (codP s).2]) ∧ w' = w := by
  have H : Hid (∀ W, Calls Tryz.prog 156 #[.string s] W fun e w' => e = .returned (.tuple #[.int .i64 (numI 10 18 s), .bool (numB 10 18 s)]) ∧ w' = W) := fun W => decimal_any s W hs
  unfold codP
  unfold maxLen at hs
  generalize numI 10 18 s = n at *
  cases hb : numB 10 18 s
  · rw [hb] at H
    rw [if_neg (by simp)]
    go_enter Tryz.func148, Tryz.ntmps148
    go_wp2_with fail
    refine (H.out _).mono ?_
    rintro e w1 ⟨rfl, rfl⟩
    go_wp2
    go_ret2
    exact ⟨rfl, rfl⟩
  · rw [hb] at H
    by_cases h3 : s.size = 3
    · by_cases h1 : 100 ≤ n
      · by_cases h5 : n ≤ 599
        · rw [if_pos ⟨rfl, h3, h1, h5⟩]
          have k1 : ¬ n < 100 := by omega
          have k5 : ¬ 599 < n := by omega
          have k3 : (s.size : Int) = 3 := by omega
          clear h1 h5 h3 hs hb
          go_enter Tryz.func148, Tryz.ntmps148
          go_wp2_with fail
          refine (H.out _).mono ?_
          rintro e w1 ⟨rfl, rfl⟩
          go_wp2
          go_ret2
          exact ⟨rfl, rfl⟩
        · rw [if_neg (fun k => h5 k.2.2.2)]
          have k1 : ¬ n < 100 := by omega
          have k5 : 599 < n := by omega
          have k3 : (s.size : Int) = 3 := by omega
          clear h1 h5 h3 hs hb
          go_enter Tryz.func148, Tryz.ntmps148
          go_wp2_with fail
          refine (H.out _).mono ?_
          rintro e w1 ⟨rfl, rfl⟩
          go_wp2
          go_ret2
          exact ⟨rfl, rfl⟩
      · rw [if_neg (fun k => h1 k.2.2.1)]
        have k1 : n < 100 := by omega
        have k3 : (s.size : Int) = 3 := by omega
        clear h1 h3 hs hb
        go_enter Tryz.func148, Tryz.ntmps148
        go_wp2_with fail
        refine (H.out _).mono ?_
        rintro e w1 ⟨rfl, rfl⟩
        go_wp2
        go_ret2
        exact ⟨rfl, rfl⟩
    · rw [if_neg (fun k => h3 k.2.1)]
      have k3 : ¬ (s.size : Int) = 3 := by omega
      clear h3 hs hb
      go_enter Tryz.func148, Tryz.ntmps148
      go_wp2_with fail
      refine (H.out _).mono ?_
      rintro e w1 ⟨rfl, rfl⟩
      go_wp2
      go_ret2
      exact ⟨rfl, rfl⟩

def rsnP (s : ByteArray) : Bool := decide (s.size ≤ 100) && allB valP s.data.toList
theorem isreason_any (s : ByteArray) (w : World) (hs : s.size ≤ maxLen) :
    Calls Tryz.prog 149 #[.string s] w fun e w' => e = .returned (.bool (rsnP s)) ∧ Below w.heap.size w w' := by
  have HT : Hid (∀ W, Calls Tryz.prog 178 #[.string s] W fun e w' => e = .returned (.bool (allB valP s.data.toList)) ∧ Below W.heap.size W w') := fun W => value_any s W hs
  unfold rsnP
  unfold maxLen at hs
  generalize allB valP s.data.toList = t at *
  by_cases h : s.size ≤ 100
  · have h' : (s.size : Int) ≤ 100 := by omega
    rw [decide_eq_true h, Bool.true_and]
    clear h
    go_enter Tryz.func149, Tryz.ntmps149
    go_wp2_with fail
    refine (HT.out _).mono ?_
    rintro e w1 ⟨rfl, B1⟩
    go_wp2
    go_ret
    exact ⟨rfl, B1⟩
  · have h' : ¬ (s.size : Int) ≤ 100 := by omega
    rw [decide_eq_false h, Bool.false_and]
    clear h HT
    go_enter Tryz.func149, Tryz.ntmps149
    go_wp2
    go_ret
    exact ⟨rfl, Below.refl _ _⟩
end Go.Proofs.YtajfjjmabncldaaGreatDoor

/- Status: what it answers of every text. -/
namespace Go.Proofs.YtajfjjmabncldaaGreatDoor
open Go.RowKit
set_option linter.unusedVariables false

structure St where
  code : Int
  reason : ByteArray
  minor : Int
  ok : Bool
def statP (s : ByteArray) : St :=
  if (minP (bcut s).1).2 = true ∧ (codP (bcut (bcut s).2.1).1).2 = true ∧ rsnP (bcut (bcut s).2.1).2.1 = true then ⟨(codP (bcut (bcut s).2.1).1).1, (bcut (bcut s).2.1).2.1, (minP (bcut s).1).1, true⟩ else ⟨0, ⟨#[]⟩, 0, false⟩
/-- A response's value. -/
def respV (x : St) : Value := .agg #[.int .i64 x.code, .string x.reason, .int .i64 x.minor, .slice none 0 0, .slice none 0 0]

set_option maxRecDepth 100000 in
set_option maxHeartbeats 4000000 in
theorem status_any (s : ByteArray) (w : World) (hs : s.size < 4294967281) (hM : MaxL w) :
    Calls Tryz.prog 113 #[.string s] w fun e w' => e = .returned (.tuple #[respV (statP s), .bool (statP s).ok]) ∧ Below w.heap.size w w' := by
  have l1 := bcut_len s
  have l2 := bcut_len (bcut s).2.1
  have H1 : Hid (∀ W, Below w.heap.size w W → Calls Tryz.prog 147 #[.string s, .string ⟨#[32]⟩] W fun e w' => e = .returned (.tuple #[.string (bcut s).1, .string (bcut s).2.1, .bool (bcut s).2.2]) ∧ Below W.heap.size W w') := fun W b => bcut_any s W hs (hM.below b)
  have H2 : Hid (∀ W, Below w.heap.size w W → Calls Tryz.prog 147 #[.string (bcut s).2.1, .string ⟨#[32]⟩] W fun e w' => e = .returned (.tuple #[.string (bcut (bcut s).2.1).1, .string (bcut (bcut s).2.1).2.1, .bool (bcut (bcut s).2.1).2.2]) ∧ Below W.heap.size W w') := fun W b => bcut_any _ W (by omega) (hM.below b)
  have HD : Hid (∀ W, Calls Tryz.prog 148 #[.string (bcut (bcut s).2.1).1] W fun e w' => e = .returned (.tuple #[.int .i64 (codP (bcut (bcut s).2.1).1).1, .bool (codP (bcut (bcut s).2.1).1).2]) ∧ w' = W) := fun W => codeof_any _ W (by unfold maxLen; omega)
  have HR : Hid (∀ W, Calls Tryz.prog 149 #[.string (bcut (bcut s).2.1).2.1] W fun e w' => e = .returned (.bool (rsnP (bcut (bcut s).2.1).2.1)) ∧ Below W.heap.size W w') := fun W => isreason_any _ W (by unfold maxLen; omega)
  have HK : Hid (∀ W, Calls Tryz.prog 44 #[.string (bcut (bcut s).2.1).2.1] W fun e w' => e = .returned (.string (bcut (bcut s).2.1).2.1) ∧ Below W.heap.size W w') := fun W => clone_any _ W (by omega)
  have HN : Hid (∀ W, Calls Tryz.prog 141 #[.string (bcut s).1] W fun e w' => e = .returned (.tuple #[.int .i64 (minP (bcut s).1).1, .bool (minP (bcut s).1).2]) ∧ w' = W) := fun W => minor_any _ W
  unfold statP
  generalize (bcut (bcut s).2.1) = y at *
  generalize (bcut s) = x at *
  obtain ⟨v, rest, b1⟩ := x
  obtain ⟨d, r, b2⟩ := y
  simp only at H1 H2 HD HR HK HN ⊢
  generalize minP v = mm at *
  generalize codP d = cc at *
  generalize rsnP r = rr at *
  obtain ⟨m, kn⟩ := mm
  obtain ⟨c, ok⟩ := cc
  simp only at HD HN ⊢
  clear l1 l2 hs hM
  have hg0 := tblk_new w (.cells #[.int .i64 0, .string ⟨#[]⟩, .int .i64 0, .slice none 0 0, .slice none 0 0] 40)
  have C0 : Below w.heap.size w (w.alloc (.cells #[.int .i64 0, .string ⟨#[]⟩, .int .i64 0, .slice none 0 0, .slice none 0 0] 40)) := (Below.refl _ _).alloc (Nat.le_refl _) _
  cases kn
  · rw [if_neg (by simp)]
    clear HR HK
    go_enter Tryz.func113, Tryz.ntmps113
    go_wp2_with fail
    refine (H1.out _ C0).mono ?_
    generalize w.alloc (.cells #[.int .i64 0, .string ⟨#[]⟩, .int .i64 0, .slice none 0 0, .slice none 0 0] 40) = w0 at *
    rintro e w1 ⟨rfl, B1⟩
    have hg1 := tblk_below hg0 B1
    have C1 := C0.trans (B1.mono C0.size)
    clear hg0 C0 B1 H1
    go_wp2_with fail
    refine (H2.out _ C1).mono ?_
    rintro e w2 ⟨rfl, B2⟩
    have hg2 := tblk_below hg1 B2
    have C2 := C1.trans (B2.mono C1.size)
    clear hg1 C1 B2 H2
    go_wp2_with fail
    refine (HN.out _).mono ?_
    rintro e w3 ⟨rfl, rfl⟩
    go_wp2_with fail
    refine (HD.out _).mono ?_
    rintro e w4 ⟨rfl, rfl⟩
    clear HD HN
    have HW := five_cells hg2 (.int .i64 0) (.string ⟨#[]⟩) (.int .i64 0) (.slice none 0 0) (.slice none 0 0)
    have HB := five_below (.int .i64 0) (.string ⟨#[]⟩) (.int .i64 0) (.slice none 0 0) (.slice none 0 0) C2 (Nat.le_refl _)
    have a0 : w4.cell? ⟨w.heap.size, 0, none⟩ = some _ := tblk_cell hg2 rfl
    have z0 : w4.frozen? ⟨w.heap.size, 0, none⟩ = false := lblk_z hg2
    have a1 : w4.cell? ⟨w.heap.size, 1, none⟩ = some _ := tblk_cell hg2 rfl
    have z1 : w4.frozen? ⟨w.heap.size, 1, none⟩ = false := lblk_z hg2
    have a2 : w4.cell? ⟨w.heap.size, 2, none⟩ = some _ := tblk_cell hg2 rfl
    have z2 : w4.frozen? ⟨w.heap.size, 2, none⟩ = false := lblk_z hg2
    have a3 : w4.cell? ⟨w.heap.size, 3, none⟩ = some _ := tblk_cell hg2 rfl
    have z3 : w4.frozen? ⟨w.heap.size, 3, none⟩ = false := lblk_z hg2
    have a4 : w4.cell? ⟨w.heap.size, 4, none⟩ = some _ := tblk_cell hg2 rfl
    have z4 : w4.frozen? ⟨w.heap.size, 4, none⟩ = false := lblk_z hg2
    have r0 := tblk_cell (i := 0) HW rfl
    have r1 := tblk_cell (i := 1) HW rfl
    have r2 := tblk_cell (i := 2) HW rfl
    have r3 := tblk_cell (i := 3) HW rfl
    have r4 := tblk_cell (i := 4) HW rfl
    unfold five at r0 r1 r2 r3 r4 HB
    have HB' : Hid _ := HB
    clear HB HW hg2 C2
    go_wp2
    refine bodyPost_ret (v := .tuple #[.agg #[.int .i64 0, .string ⟨#[]⟩, .int .i64 0, .slice none 0 0, .slice none 0 0], .bool false]) (by simp [results, Tryz.results113, go_sem, r0, r1, r2, r3, r4]) rfl ⟨rfl, HB'.out⟩
  · cases ok
    · rw [if_neg (by simp)]
      clear HR HK
      go_enter Tryz.func113, Tryz.ntmps113
      go_wp2_with fail
      refine (H1.out _ C0).mono ?_
      generalize w.alloc (.cells #[.int .i64 0, .string ⟨#[]⟩, .int .i64 0, .slice none 0 0, .slice none 0 0] 40) = w0 at *
      rintro e w1 ⟨rfl, B1⟩
      have hg1 := tblk_below hg0 B1
      have C1 := C0.trans (B1.mono C0.size)
      clear hg0 C0 B1 H1
      go_wp2_with fail
      refine (H2.out _ C1).mono ?_
      rintro e w2 ⟨rfl, B2⟩
      have hg2 := tblk_below hg1 B2
      have C2 := C1.trans (B2.mono C1.size)
      clear hg1 C1 B2 H2
      go_wp2_with fail
      refine (HN.out _).mono ?_
      rintro e w3 ⟨rfl, rfl⟩
      go_wp2_with fail
      refine (HD.out _).mono ?_
      rintro e w4 ⟨rfl, rfl⟩
      clear HD HN
      have HW := five_cells hg2 (.int .i64 0) (.string ⟨#[]⟩) (.int .i64 0) (.slice none 0 0) (.slice none 0 0)
      have HB := five_below (.int .i64 0) (.string ⟨#[]⟩) (.int .i64 0) (.slice none 0 0) (.slice none 0 0) C2 (Nat.le_refl _)
      have a0 : w4.cell? ⟨w.heap.size, 0, none⟩ = some _ := tblk_cell hg2 rfl
      have z0 : w4.frozen? ⟨w.heap.size, 0, none⟩ = false := lblk_z hg2
      have a1 : w4.cell? ⟨w.heap.size, 1, none⟩ = some _ := tblk_cell hg2 rfl
      have z1 : w4.frozen? ⟨w.heap.size, 1, none⟩ = false := lblk_z hg2
      have a2 : w4.cell? ⟨w.heap.size, 2, none⟩ = some _ := tblk_cell hg2 rfl
      have z2 : w4.frozen? ⟨w.heap.size, 2, none⟩ = false := lblk_z hg2
      have a3 : w4.cell? ⟨w.heap.size, 3, none⟩ = some _ := tblk_cell hg2 rfl
      have z3 : w4.frozen? ⟨w.heap.size, 3, none⟩ = false := lblk_z hg2
      have a4 : w4.cell? ⟨w.heap.size, 4, none⟩ = some _ := tblk_cell hg2 rfl
      have z4 : w4.frozen? ⟨w.heap.size, 4, none⟩ = false := lblk_z hg2
      have r0 := tblk_cell (i := 0) HW rfl
      have r1 := tblk_cell (i := 1) HW rfl
      have r2 := tblk_cell (i := 2) HW rfl
      have r3 := tblk_cell (i := 3) HW rfl
      have r4 := tblk_cell (i := 4) HW rfl
      unfold five at r0 r1 r2 r3 r4 HB
      have HB' : Hid _ := HB
      clear HB HW hg2 C2
      go_wp2
      refine bodyPost_ret (v := .tuple #[.agg #[.int .i64 0, .string ⟨#[]⟩, .int .i64 0, .slice none 0 0, .slice none 0 0], .bool false]) (by simp [results, Tryz.results113, go_sem, r0, r1, r2, r3, r4]) rfl ⟨rfl, HB'.out⟩
    · cases rr
      · rw [if_neg (by simp)]
        clear HK
        go_enter Tryz.func113, Tryz.ntmps113
        go_wp2_with fail
        refine (H1.out _ C0).mono ?_
        generalize w.alloc (.cells #[.int .i64 0, .string ⟨#[]⟩, .int .i64 0, .slice none 0 0, .slice none 0 0] 40) = w0 at *
        rintro e w1 ⟨rfl, B1⟩
        have hg1 := tblk_below hg0 B1
        have C1 := C0.trans (B1.mono C0.size)
        clear hg0 C0 B1 H1
        go_wp2_with fail
        refine (H2.out _ C1).mono ?_
        rintro e w2 ⟨rfl, B2⟩
        have hg2 := tblk_below hg1 B2
        have C2 := C1.trans (B2.mono C1.size)
        clear hg1 C1 B2 H2
        go_wp2_with fail
        refine (HN.out _).mono ?_
        rintro e w3 ⟨rfl, rfl⟩
        go_wp2_with fail
        refine (HD.out _).mono ?_
        rintro e w4 ⟨rfl, rfl⟩
        clear HD HN
        go_wp2_with fail
        refine (HR.out _).mono ?_
        rintro e w5 ⟨rfl, B3⟩
        have hg3 := tblk_below hg2 B3
        have C3 := C2.trans (B3.mono C2.size)
        clear hg2 C2 B3 HR
        have HW := five_cells hg3 (.int .i64 0) (.string ⟨#[]⟩) (.int .i64 0) (.slice none 0 0) (.slice none 0 0)
        have HB := five_below (.int .i64 0) (.string ⟨#[]⟩) (.int .i64 0) (.slice none 0 0) (.slice none 0 0) C3 (Nat.le_refl _)
        have a0 : w5.cell? ⟨w.heap.size, 0, none⟩ = some _ := tblk_cell hg3 rfl
        have z0 : w5.frozen? ⟨w.heap.size, 0, none⟩ = false := lblk_z hg3
        have a1 : w5.cell? ⟨w.heap.size, 1, none⟩ = some _ := tblk_cell hg3 rfl
        have z1 : w5.frozen? ⟨w.heap.size, 1, none⟩ = false := lblk_z hg3
        have a2 : w5.cell? ⟨w.heap.size, 2, none⟩ = some _ := tblk_cell hg3 rfl
        have z2 : w5.frozen? ⟨w.heap.size, 2, none⟩ = false := lblk_z hg3
        have a3 : w5.cell? ⟨w.heap.size, 3, none⟩ = some _ := tblk_cell hg3 rfl
        have z3 : w5.frozen? ⟨w.heap.size, 3, none⟩ = false := lblk_z hg3
        have a4 : w5.cell? ⟨w.heap.size, 4, none⟩ = some _ := tblk_cell hg3 rfl
        have z4 : w5.frozen? ⟨w.heap.size, 4, none⟩ = false := lblk_z hg3
        have r0 := tblk_cell (i := 0) HW rfl
        have r1 := tblk_cell (i := 1) HW rfl
        have r2 := tblk_cell (i := 2) HW rfl
        have r3 := tblk_cell (i := 3) HW rfl
        have r4 := tblk_cell (i := 4) HW rfl
        unfold five at r0 r1 r2 r3 r4 HB
        have HB' : Hid _ := HB
        clear HB HW hg3 C3
        go_wp2
        refine bodyPost_ret (v := .tuple #[.agg #[.int .i64 0, .string ⟨#[]⟩, .int .i64 0, .slice none 0 0, .slice none 0 0], .bool false]) (by simp [results, Tryz.results113, go_sem, r0, r1, r2, r3, r4]) rfl ⟨rfl, HB'.out⟩
      · rw [if_pos ⟨rfl, rfl, rfl⟩]
        go_enter Tryz.func113, Tryz.ntmps113
        go_wp2_with fail
        refine (H1.out _ C0).mono ?_
        generalize w.alloc (.cells #[.int .i64 0, .string ⟨#[]⟩, .int .i64 0, .slice none 0 0, .slice none 0 0] 40) = w0 at *
        rintro e w1 ⟨rfl, B1⟩
        have hg1 := tblk_below hg0 B1
        have C1 := C0.trans (B1.mono C0.size)
        clear hg0 C0 B1 H1
        go_wp2_with fail
        refine (H2.out _ C1).mono ?_
        rintro e w2 ⟨rfl, B2⟩
        have hg2 := tblk_below hg1 B2
        have C2 := C1.trans (B2.mono C1.size)
        clear hg1 C1 B2 H2
        go_wp2_with fail
        refine (HN.out _).mono ?_
        rintro e w3 ⟨rfl, rfl⟩
        go_wp2_with fail
        refine (HD.out _).mono ?_
        rintro e w4 ⟨rfl, rfl⟩
        clear HD HN
        go_wp2_with fail
        refine (HR.out _).mono ?_
        rintro e w5 ⟨rfl, B3⟩
        have hg3 := tblk_below hg2 B3
        have C3 := C2.trans (B3.mono C2.size)
        clear hg2 C2 B3 HR
        go_wp2_with fail
        refine (HK.out _).mono ?_
        rintro e w6 ⟨rfl, B4⟩
        have hg4 := tblk_below hg3 B4
        have C4 := C3.trans (B4.mono C3.size)
        clear hg3 C3 B4 HK
        have HW := five_cells hg4 (.int .i64 c) (.string r) (.int .i64 m) (.slice none 0 0) (.slice none 0 0)
        have HB := five_below (.int .i64 c) (.string r) (.int .i64 m) (.slice none 0 0) (.slice none 0 0) C4 (Nat.le_refl _)
        have a0 : w6.cell? ⟨w.heap.size, 0, none⟩ = some _ := tblk_cell hg4 rfl
        have z0 : w6.frozen? ⟨w.heap.size, 0, none⟩ = false := lblk_z hg4
        have a1 : w6.cell? ⟨w.heap.size, 1, none⟩ = some _ := tblk_cell hg4 rfl
        have z1 : w6.frozen? ⟨w.heap.size, 1, none⟩ = false := lblk_z hg4
        have a2 : w6.cell? ⟨w.heap.size, 2, none⟩ = some _ := tblk_cell hg4 rfl
        have z2 : w6.frozen? ⟨w.heap.size, 2, none⟩ = false := lblk_z hg4
        have a3 : w6.cell? ⟨w.heap.size, 3, none⟩ = some _ := tblk_cell hg4 rfl
        have z3 : w6.frozen? ⟨w.heap.size, 3, none⟩ = false := lblk_z hg4
        have a4 : w6.cell? ⟨w.heap.size, 4, none⟩ = some _ := tblk_cell hg4 rfl
        have z4 : w6.frozen? ⟨w.heap.size, 4, none⟩ = false := lblk_z hg4
        have r0 := tblk_cell (i := 0) HW rfl
        have r1 := tblk_cell (i := 1) HW rfl
        have r2 := tblk_cell (i := 2) HW rfl
        have r3 := tblk_cell (i := 3) HW rfl
        have r4 := tblk_cell (i := 4) HW rfl
        unfold five at r0 r1 r2 r3 r4 HB
        have HB' : Hid _ := HB
        clear HB HW hg4 C4
        go_wp2
        refine bodyPost_ret (v := .tuple #[.agg #[.int .i64 c, .string r, .int .i64 m, .slice none 0 0, .slice none 0 0], .bool true]) (by simp [results, Tryz.results113, go_sem, r0, r1, r2, r3, r4]) rfl ⟨rfl, HB'.out⟩
end Go.Proofs.YtajfjjmabncldaaGreatDoor

/- Responses, plain, as package http reads them. -/
namespace Go.Proofs.YtajfjjmabncldaaGreatDoor
open Go.RowKit
set_option linter.unusedVariables false

def stSt (s : ByteArray) : Int := if (statP s).ok = true then 0 else 400
/-- A response, its body, how many bytes it takes; is it right? -/
structure Rp where
  code : Int
  reason : ByteArray
  minor : Int
  fs : Fs
  body : List UInt8
  n : Nat
  ok : Bool
def rpNo (ok : Bool) : Rp := ⟨0, ⟨#[]⟩, 0, [], [], 0, ok⟩
/-- The body of a response whose head has so many bytes, of its kind and size. -/
def rbodyQ (s : St) (fs : Fs) (b : List UInt8) (head : Nat) (K : Int × Int × Bool) (ended : Bool) : Rp :=
  if K.1 = 3 then (if ((b.length - head : Nat) : Int) ≤ 4096 then (if ended = true then ⟨s.code, s.reason, s.minor, fs, b.drop head, b.length, true⟩ else rpNo true) else rpNo false)
  else if K.2.2 = false then rpNo false
  else ⟨s.code, s.reason, s.minor, fs, (bodyQ b head K.2.1 (decide (K.1 = 2))).1, (bodyQ b head K.2.1 (decide (K.1 = 2))).2.1, decide ((bodyQ b head K.2.1 (decide (K.1 = 2))).2.2 = 0)⟩
def rresQ (b : List UInt8) (method : ByteArray) (ended : Bool) : Rp :=
  if (headL stSt b).2.1 = 0 then rpNo (decide ((headL stSt b).2.2 = 0))
  else rbodyQ (statP (firstL b)) (headL stSt b).1 b (headL stSt b).2.1 (respF method (statP (firstL b)).code (statP (firstL b)).minor (headL stSt b).1) ended
def respOf (R : Rp) (ended : Bool) : Rp := if R.n = 0 then rpNo (R.ok && !ended) else ⟨R.code, R.reason, R.minor, R.fs, R.body, R.n, true⟩
def respQ (b : List UInt8) (method : ByteArray) (ended : Bool) : Rp := respOf (rresQ b method ended) ended
end Go.Proofs.YtajfjjmabncldaaGreatDoor

/- SameBytes of equal lists. -/
namespace Go.Proofs.YtajfjjmabncldaaGreatDoor
open Go.RowKit
set_option linter.unusedVariables false

set_option maxHeartbeats 1000000 in
theorem sameBytes_eq (xs : List UInt8) (k1 k2 : Nat) (v1 v2 : Value) (w : World) (h1 : Src w k1 v1 xs) (h2 : Src w k2 v2 xs) :
    Calls Tryz.prog 31 #[v1, v2] w fun e w' => e = .returned (.bool true) ∧ Below w.heap.size w w' := by
  obtain ⟨a1, c1, rfl, l1, m1, f1⟩ := h1
  obtain ⟨a2, c2, rfl, l2, m2, f2⟩ := h2
  unfold maxLen at m1 m2
  rcases Nat.eq_zero_or_pos xs.length with h0 | hp
  · rw [h0]
    clear f1 f2
    go_enter Tryz.func31, Tryz.ntmps31
    go_wp2_with fail
    refine wp_loop_rounds 1 ?_
    rw [rounds_succ]
    go_wp2
    go_ret
    exact ⟨rfl, Below.refl _ _⟩
  · obtain ⟨o1, rfl, g1⟩ := f1 hp
    obtain ⟨o2, rfl, g2⟩ := f2 hp
    clear f1 f2
    have hn : xs.length ≤ 9223372036854775807 := by omega
    clear m1 m2
    go_enter Tryz.func31, Tryz.ntmps31
    go_wp2_with fail
    go_loopw [5] (fun vi wr => ∃ k d : Nat, k ≤ xs.length ∧ vi = .int .i64 k ∧ wr = w.drewN d) (fun vi _ => xs.length - (intOf vi).toNat)
    case atStart => exact ⟨0, 0, Nat.zero_le _, rfl, by simp [World.drewN_zero]⟩
    case round =>
      obtain ⟨k, d, hk, rfl, rfl⟩ := hrel
      by_cases hlt : k < xs.length
      · have q1 : w.cell? ⟨k1, o1 + k, none⟩ = some (.int .u8 (xs[k].toNat : Int)) := g1 k hlt
        have q2 : w.cell? ⟨k2, o2 + k, none⟩ = some (.int .u8 (xs[k].toNat : Int)) := g2 k hlt
        generalize (xs[k].toNat : Int) = x at *
        clear g1 g2
        go_wp2
        go_quiet (fail)
        go_wp2
        go_roundw
        case rel => exact ⟨k + 1, _, by omega, by go_num, rfl⟩
        case measure => simp [intOf]; omega
      · go_wp2
        go_ret
        exact ⟨rfl, by refine ⟨?_, ?_, ?_, ?_, ?_⟩ <;> simp [World.drewN]⟩

end Go.Proofs.YtajfjjmabncldaaGreatDoor

/- The reference's SameResp: equal responses are the same. -/
namespace Go.Proofs.YtajfjjmabncldaaGreatDoor
open Go.RowKit
set_option linter.unusedVariables false

set_option maxRecDepth 100000 in
set_option maxHeartbeats 2000000 in
theorem sameresp_eq (m : Int) (t : ByteArray) (mi : Int) (fs : Fs) (body : List UInt8) (a1 a2 b1 b2 : Option Addr) (c1 c2 d1 d2 k1 k2 : Nat) (w : World) (hf1 : Fds w.heap.size w (.slice a1 fs.length c1) fs) (hf2 : Fds w.heap.size w (.slice a2 fs.length c2) fs) (hs1 : Src w k1 (.slice b1 body.length d1) body) (hk1 : 0 < body.length → k1 < w.heap.size) (hs2 : Src w k2 (.slice b2 body.length d2) body) (hk2 : 0 < body.length → k2 < w.heap.size) :
    Calls Tryz.prog 16 #[.agg #[.int .i64 m, .string t, .int .i64 mi, .slice a1 fs.length c1, .slice b1 body.length d1], .agg #[.int .i64 m, .string t, .int .i64 mi, .slice a2 fs.length c2, .slice b2 body.length d2]] w fun e w' => e = .returned (.bool true) ∧ Below w.heap.size w w' := by
  have C1 : Below w.heap.size w (w.alloc (.cells #[.int .i64 m, .string t, .int .i64 mi, .slice a1 fs.length c1, .slice b1 body.length d1] 40)) := (Below.refl _ _).alloc (Nat.le_refl _) _
  have C2 : Below w.heap.size w ((w.alloc (.cells #[.int .i64 m, .string t, .int .i64 mi, .slice a1 fs.length c1, .slice b1 body.length d1] 40)).alloc (.cells #[.int .i64 m, .string t, .int .i64 mi, .slice a2 fs.length c2, .slice b2 body.length d2] 40)) := C1.alloc C1.size _
  have h1 : ((w.alloc (.cells #[.int .i64 m, .string t, .int .i64 mi, .slice a1 fs.length c1, .slice b1 body.length d1] 40)).alloc (.cells #[.int .i64 m, .string t, .int .i64 mi, .slice a2 fs.length c2, .slice b2 body.length d2] 40)).heap[w.heap.size]? = some (.cells #[.int .i64 m, .string t, .int .i64 mi, .slice a1 fs.length c1, .slice b1 body.length d1] 40) := tblk_below (tblk_new _ _) ((Below.refl _ _).alloc (Nat.le_refl _) _)
  have h2 : ((w.alloc (.cells #[.int .i64 m, .string t, .int .i64 mi, .slice a1 fs.length c1, .slice b1 body.length d1] 40)).alloc (.cells #[.int .i64 m, .string t, .int .i64 mi, .slice a2 fs.length c2, .slice b2 body.length d2] 40)).heap[w.heap.size + 1]? = some (.cells #[.int .i64 m, .string t, .int .i64 mi, .slice a2 fs.length c2, .slice b2 body.length d2] 40) := by
    have k := tblk_new (w.alloc (.cells #[.int .i64 m, .string t, .int .i64 mi, .slice a1 fs.length c1, .slice b1 body.length d1] 40)) (.cells #[.int .i64 m, .string t, .int .i64 mi, .slice a2 fs.length c2, .slice b2 body.length d2] 40)
    have e : (w.alloc (.cells #[.int .i64 m, .string t, .int .i64 mi, .slice a1 fs.length c1, .slice b1 body.length d1] 40)).heap.size = w.heap.size + 1 := by simp
    rw [e] at k
    exact k
  have HF : Hid (Calls Tryz.prog 34 #[.slice a1 fs.length c1, .slice a2 fs.length c2] ((w.alloc (.cells #[.int .i64 m, .string t, .int .i64 mi, .slice a1 fs.length c1, .slice b1 body.length d1] 40)).alloc (.cells #[.int .i64 m, .string t, .int .i64 mi, .slice a2 fs.length c2, .slice b2 body.length d2] 40)) fun e w' => e = .returned (.bool true) ∧ Below w.heap.size w w' ∧ w'.cell? ⟨w.heap.size, 4, none⟩ = some (.slice b1 body.length d1) ∧ w'.cell? ⟨w.heap.size + 1, 4, none⟩ = some (.slice b2 body.length d2)) := by
    refine (rsame_eq fs a1 a2 c1 c2 _ (hf1.over C2) (hf2.over C2)).mono ?_
    rintro e w' ⟨he, hB⟩
    exact ⟨he, C2.trans (hB.mono C2.size), tblk_cell (tblk_below h1 hB) rfl, tblk_cell (tblk_below h2 hB) rfl⟩
  have HS : Hid (∀ W, Below w.heap.size w W → Calls Tryz.prog 31 #[.slice b1 body.length d1, .slice b2 body.length d2] W fun e w' => e = .returned (.bool true) ∧ Below W.heap.size W w') := fun W B => sameBytes_eq body k1 k2 _ _ W (hs1.keep hk1 B) (hs2.keep hk2 B)
  have x0 := tblk_cell (i := 0) h1 rfl
  have x1 := tblk_cell (i := 1) h1 rfl
  have x2 := tblk_cell (i := 2) h1 rfl
  have x3 := tblk_cell (i := 3) h1 rfl
  have y0 := tblk_cell (i := 0) h2 rfl
  have y1 := tblk_cell (i := 1) h2 rfl
  have y2 := tblk_cell (i := 2) h2 rfl
  have y3 := tblk_cell (i := 3) h2 rfl
  clear hf1 hf2 hs1 hk1 hs2 hk2 C1 C2 h1 h2
  generalize fs.length = fl at *
  generalize body.length = bl at *
  go_enter Tryz.func16, Tryz.ntmps16
  go_wp2_with fail
  refine HF.out.mono ?_
  rintro e w1 ⟨rfl, B1, q1, q2⟩
  clear HF x0 x1 x2 x3 y0 y1 y2 y3
  go_wp2_with fail
  refine (HS.out _ B1).mono ?_
  rintro e w2 ⟨rfl, B2⟩
  have D2 := B1.trans (B2.mono B1.size)
  go_wp2
  go_ret
  exact ⟨rfl, D2⟩
end Go.Proofs.YtajfjjmabncldaaGreatDoor
