/- Whatever the bytes, the place and the sign, HttpBare answers true: a request into whose head a bare 10, or a 13 without one, is put is no request; no condition. -/
import Derived.Test.YthbjdbookiejeaaGreatDoorKj
import Derived.Test.YthbjdbookiejeaaGreatDoorKb
import Derived.Deep.RegionHeld3
import Derived.Deep.AppendLies
import Derived.Test.YthbjdbookiejeaaGreatDoorKh
import Derived.Test.YthbjdbookiejeaaGreatDoorRows
import Derived.Test.YthbjdbookiejeaaGreatDoorCards
import Derived.Test.YthbjdbookiejeaaGreatDoorTie
import Derived.Test.YthbjdbookiejeaaGreatDoorKf
import Derived.WalkKit
import Derived.ProofKit
import Derived.OpenShut
import Derived.ShutString
import Derived.ChangeOld
import Derived.Below
import Derived.LaidMore
import Derived.Lay
import Derived.Stop.Joined
import Derived.SevenTiedAt
import Derived.Shelf.Vars
import Derived.Deep.DeepHandedRow
import Derived.Deep.DeepWitnessRowRef
/- A bare 10, or a 13 without one, put into a head: plain. -/
namespace Go.Proofs.YthbjdbookiejeaaGreatDoor
open Go.RowKit
set_option linter.unusedVariables false

/-- A byte put into bytes. -/
def ins (l : List UInt8) (i : Nat) (c : UInt8) : List UInt8 := l.take i ++ c :: l.drop i
theorem ins_zero (l : List UInt8) (c : UInt8) : ins l 0 c = c :: l := rfl
theorem ins_succ (a : UInt8) (l : List UInt8) (i : Nat) (c : UInt8) : ins (a :: l) (i + 1) c = a :: ins l i c := rfl
/-- What is put there, and where. -/
def Bar (l : List UInt8) (i : Nat) (c : UInt8) : Prop := ∃ h : i < l.length, l[i] ≠ 10 ∧ ((c = 13 ∧ l[i] ≠ 13) ∨ (c = 10 ∧ (i = 0 ∨ ∃ h' : i - 1 < l.length, l[i - 1] ≠ 13)))
theorem Bar.tail {a : UInt8} {l : List UInt8} {i : Nat} {c : UInt8} (h : Bar (a :: l) (i + 1) c) : Bar l i c := by
  obtain ⟨h1, h2, h3⟩ := h
  have hi : i < l.length := by simpa using h1
  refine ⟨hi, by simpa using h2, ?_⟩
  rcases h3 with ⟨e, k⟩ | ⟨e, k⟩
  · exact .inl ⟨e, by simpa using k⟩
  · refine .inr ⟨e, ?_⟩
    rcases Nat.eq_zero_or_pos i with q | q
    · exact .inl q
    · right
      rcases k with k | ⟨h', k⟩
      · omega
      · refine ⟨by omega, ?_⟩
        obtain ⟨j, rfl⟩ : ∃ j, i = j + 1 := ⟨i - 1, by omega⟩
        simpa using k
theorem Bar.drop {l : List UInt8} {i : Nat} {c : UInt8} (n : Nat) (h : Bar l i c) (hn : n ≤ i) : Bar (l.drop n) (i - n) c := by
  induction n generalizing l i with
  | zero => exact h
  | succ n ih =>
    cases l with
    | nil => obtain ⟨h1, _⟩ := h; cases h1
    | cons a l =>
      obtain ⟨j, rfl⟩ : ∃ j, i = j + 1 := ⟨i - 1, by omega⟩
      have k := ih h.tail (by omega)
      rw [List.drop_succ_cons, show j + 1 - (n + 1) = j - n by omega]
      exact k
theorem ins_drop {l : List UInt8} {i n : Nat} {c : UInt8} (hn : n ≤ i) (hi : i ≤ l.length) : (ins l i c).drop n = ins (l.drop n) (i - n) c := by
  induction n generalizing l i with
  | zero => rfl
  | succ n ih =>
    obtain ⟨j, rfl⟩ : ∃ j, i = j + 1 := ⟨i - 1, by omega⟩
    cases l with
    | nil => cases hi
    | cons a l =>
      rw [ins_succ, List.drop_succ_cons, List.drop_succ_cons, ih (by omega) (by simpa using hi), show j + 1 - (n + 1) = j - n by omega]
theorem ins_take {l : List UInt8} {i n : Nat} {c : UInt8} (hn : n ≤ i) (hi : i ≤ l.length) : (ins l i c).take n = l.take n := by
  unfold ins
  rw [List.take_append_of_le_length (by rw [List.length_take]; omega), List.take_take, Nat.min_eq_left hn]
/-- The line that holds the place is refused. -/
theorem cut_in (m : Nat) (c : UInt8) : ∀ (l : List UInt8) (i j k : Nat), cutAt m j l = (some (j + k), 0) → i ≤ k → Bar l i c → cutAt m j (ins l i c) = (none, 20)
  | [], i, j, k, h, hi, hb => by obtain ⟨h1, _⟩ := hb; cases h1
  | a :: l, 0, j, k, h, hi, hb => by
    obtain ⟨h1, h2, h3⟩ := hb
    have h2' : a ≠ 10 := h2
    rw [ins_zero]
    rcases h3 with ⟨rfl, _⟩ | ⟨rfl, _⟩
    · unfold cutAt
      simp [h2']
    · unfold cutAt
      simp
  | a :: l, i + 1, j, k, h, hi, hb => by
    rw [cutAt] at h
    by_cases h1 : a = 10
    · rw [if_pos h1] at h; cases h
    · rw [if_neg h1] at h
      by_cases h2 : a = 13
      · rw [if_pos h2] at h
        by_cases h3 : l.head? = none
        · rw [if_pos h3] at h; cases h
        · rw [if_neg h3] at h
          by_cases h4 : l.head? = some 10
          · rw [if_pos h4] at h
            have e := congrArg Prod.fst h
            simp only [Option.some.injEq] at e
            omega
          · rw [if_neg h4] at h; cases h
      · rw [if_neg h2] at h
        by_cases h3 : m ≤ j
        · rw [if_pos h3] at h; cases h
        · rw [if_neg h3] at h
          obtain ⟨k', rfl⟩ : ∃ k', k = k' + 1 := ⟨k - 1, by omega⟩
          rw [ins_succ, cutAt, if_neg h1, if_neg h2, if_neg h3]
          exact cut_in m c l i (j + 1) k' (by rw [h]; congr 2; omega) (by omega) hb.tail
/-- The lines ahead of it are as they were. -/
theorem cut_out (m : Nat) (c : UInt8) : ∀ (l : List UInt8) (i j k : Nat), cutAt m j l = (some (j + k), 0) → k + 2 ≤ i → i ≤ l.length → cutAt m j (ins l i c) = (some (j + k), 0)
  | [], i, j, k, h, hi, hl => by cases h
  | a :: l, 0, j, k, h, hi, hl => by omega
  | a :: l, i + 1, j, k, h, hi, hl => by
    rw [cutAt] at h
    by_cases h1 : a = 10
    · rw [if_pos h1] at h; cases h
    · rw [if_neg h1] at h
      by_cases h2 : a = 13
      · rw [if_pos h2] at h
        by_cases h3 : l.head? = none
        · rw [if_pos h3] at h; cases h
        · rw [if_neg h3] at h
          by_cases h4 : l.head? = some 10
          · rw [if_pos h4] at h
            rw [ins_succ, cutAt, if_neg h1, if_pos h2]
            have e : (ins l i c).head? = some 10 := by
              obtain ⟨i', rfl⟩ : ∃ i', i = i' + 1 := ⟨i - 1, by omega⟩
              cases l with
              | nil => cases h4
              | cons x l => rw [ins_succ]; exact h4
            rw [e, if_neg (by decide), if_pos rfl]
            exact h
          · rw [if_neg h4] at h; cases h
      · rw [if_neg h2] at h
        by_cases h3 : m ≤ j
        · rw [if_pos h3] at h; cases h
        · rw [if_neg h3] at h
          cases k with
          | zero =>
            exfalso
            have := cutAt_some m l (j + 1) (j + 0) 0 h
            obtain ⟨_, q, hq, _⟩ := this
            omega
          | succ k =>
            rw [ins_succ, cutAt, if_neg h1, if_neg h2, if_neg h3]
            have e : j + (k + 1) = (j + 1) + k := by omega
            rw [e] at h ⊢
            exact cut_out m c l i (j + 1) k h (by omega) (by simpa using hl)
theorem cut_in0 {m : Nat} {c : UInt8} {l : List UInt8} {i k : Nat} (h : cutAt m 0 l = (some k, 0)) (hi : i ≤ k) (hb : Bar l i c) : cutAt m 0 (ins l i c) = (none, 20) := cut_in m c l i 0 k (by rw [Nat.zero_add]; exact h) hi hb
theorem cut_out0 {m : Nat} {c : UInt8} {l : List UInt8} {i k : Nat} (h : cutAt m 0 l = (some k, 0)) (hi : k + 2 ≤ i) (hl : i ≤ l.length) : cutAt m 0 (ins l i c) = (some k, 0) := by
  have q := cut_out m c l i 0 k (by rw [Nat.zero_add]; exact h) hi hl
  rw [Nat.zero_add] at q
  exact q
theorem bar_ne {l : List UInt8} {k i : Nat} {c : UInt8} (h : l.take (k + 2) = l.take k ++ [13, 10]) (hl : k + 2 ≤ l.length) (hb : Bar l i c) : i ≠ k + 1 := by
  rintro rfl
  obtain ⟨h1, h2, _⟩ := hb
  have e : (l.take (k + 2))[k + 1]? = some l[k + 1] := by
    rw [List.getElem?_take_of_lt (by omega), List.getElem?_eq_getElem h1]
  rw [h, List.getElem?_append_right (by rw [List.length_take]; omega), List.length_take, Nat.min_eq_left (by omega), show k + 1 - k = 1 by omega] at e
  simp only [List.getElem?_cons_succ, List.getElem?_cons_zero, Option.some.injEq] at e
  exact h2 e.symm
theorem fld_bare (full f' : Bool) (c : UInt8) : ∀ (r : Nat) (l : List UInt8) (i : Nat), i + 2 < (fldL full r l).2.1 → Bar l i c → fldL f' r (ins l i c) = ([], 0, 400) := by
  have hmiss : ∀ (r : Nat) (l : List UInt8) (i k : Nat), cutAt 2048 0 l = (some k, 0) → i ≤ k → Bar l i c → fldL f' r (ins l i c) = ([], 0, 400) := fun r l i k h hi hb => by
    rw [fldL_miss (cut_in0 h hi hb)]; rfl
  intro r
  induction r with
  | zero =>
    intro l i hn hb
    rcases cut_cases 2048 l with ⟨k, hc, hl, hx⟩ | ⟨e, hc⟩
    · by_cases hk : k = 0
      · subst hk; rw [fldL_end hc] at hn; simp only at hn; omega
      · cases hf : fldOk (l.take k)
        · rw [fldL_bad hc hk hf] at hn; simp only at hn; omega
        · rw [fldL_many hc hk hf] at hn; simp only at hn; omega
    · rw [fldL_miss hc] at hn; simp only at hn; omega
  | succ r ih =>
    intro l i hn hb
    rcases cut_cases 2048 l with ⟨k, hc, hl, hx⟩ | ⟨e, hc⟩
    · by_cases hik : i ≤ k
      · exact hmiss (r + 1) l i k hc hik hb
      · have h1 := bar_ne hx hl hb
        have hil : i < l.length := hb.1
        by_cases hk : k = 0
        · subst hk; rw [fldL_end hc] at hn; simp only at hn; omega
        · cases hf : fldOk (l.take k)
          · rw [fldL_bad hc hk hf] at hn; simp only at hn; omega
          · rw [fldL_next hc hk hf] at hn
            have e2 : (ins l i c).take k = l.take k := ins_take (by omega) (by omega)
            rw [fldL_next (cut_out0 hc (by omega) (by omega)) hk (by rw [e2]; exact hf), ins_drop (by omega) (by omega)]
            have hn' : i - (k + 2) + 2 < (fldL full r (l.drop (k + 2))).2.1 := by
              unfold plusH at hn
              by_cases h0 : (fldL full r (l.drop (k + 2))).2.1 = 0
              · rw [if_pos h0] at hn; simp only at hn; omega
              · rw [if_neg h0] at hn; simp only at hn; omega
            rw [ih _ _ hn' (hb.drop _ (by omega)), plusH_err]
    · rw [fldL_miss hc] at hn; simp only at hn; omega
theorem ins_len (l : List UInt8) (i : Nat) (c : UInt8) : (ins l i c).length = l.length + 1 := by
  unfold ins
  rw [List.length_append, List.length_cons, List.length_take, List.length_drop]
  omega
theorem head_bare (b : List UInt8) (i : Nat) (c : UInt8) (hl : b.length ≤ 2000) (hn : i + 2 < (headL rqSt b).2.1) (hb : Bar b i c) : headL rqSt (ins b i c) = ([], 0, 400) := by
  have e1 : b.take 2048 = b := List.take_of_length_le (by omega)
  have e2 : (ins b i c).take 2048 = ins b i c := List.take_of_length_le (by rw [ins_len]; omega)
  have hil : i < b.length := hb.1
  rcases cut_cases 2048 b with ⟨k, hc, hkl, hx⟩ | ⟨e, hc⟩
  · by_cases hik : i ≤ k
    · rw [headL_miss (by rw [e2]; exact cut_in0 hc hik hb)]; rfl
    · have h1 := bar_ne hx hkl hb
      have hc' : cutAt 2048 0 (b.take 2048) = (some k, 0) := by rw [e1]; exact hc
      have e3 : (ins b i c).take k = b.take k := ins_take (by omega) (by omega)
      by_cases hs : rqSt (tx (b.take k)) = 0
      · rw [headL_hit hc' (by rw [e1]; exact hs), e1] at hn
        have hc2 : cutAt 2048 0 ((ins b i c).take 2048) = (some k, 0) := by rw [e2]; exact cut_out0 hc (by omega) (by omega)
        rw [headL_hit hc2 (by rw [e2, e3]; exact hs), e2, ins_drop (by omega) (by omega)]
        have hn' : i - (k + 2) + 2 < (fldL (fullB b) 40 (b.drop (k + 2))).2.1 := by
          unfold plusH at hn
          by_cases h0 : (fldL (fullB b) 40 (b.drop (k + 2))).2.1 = 0
          · rw [if_pos h0] at hn; simp only at hn; omega
          · rw [if_neg h0] at hn; simp only at hn; omega
        rw [fld_bare _ _ c 40 _ _ hn' (hb.drop _ (by omega)), plusH_err]
      · rw [headL_bad hc' (by rw [e1]; exact hs)] at hn; simp only at hn; omega
  · rw [headL_miss (by rw [e1]; exact hc)] at hn; simp only at hn; omega
/-- It is no request. -/
theorem req_bare (b : List UInt8) (i : Nat) (c : UInt8) (hl : b.length ≤ 2000) (hn : i + 2 < (headQ b).n) (hb : Bar b i c) : reqQ (ins b i c) = rdNo 400 := by
  have h0 : ¬ (headQ b).n = 0 := by omega
  rw [headQ_n h0] at hn
  have k := head_bare b i c hl hn hb
  have q : headQ (ins b i c) = hdNo 400 := by
    unfold headQ
    rw [k, if_pos rfl]
  unfold reqQ
  rw [q]
  exact (if_pos rfl).trans rfl
/-- Where the end of a head stands, no later than at its last four bytes; not at the beginning. -/
theorem head_pos {b : List UInt8} (h : ¬ (headQ b).n = 0) : ∃ j, (headQ b).n = j + 4 ∧ 0 < j ∧ j + 4 ≤ b.length ∧ (b.drop j).take 4 = [13, 10, 13, 10] := by
  obtain ⟨j, hj, he⟩ := headQ_end h
  have hle := (headQ_ok b).le.1
  refine ⟨j, hj, ?_, by omega, ?_⟩
  · rcases Nat.eq_zero_or_pos j with q | q
    · exfalso
      subst q
      rw [hj] at he
      simp only [List.drop_zero, Nat.zero_add] at he
      have e := headQ_n h
      have hz : ¬ (headL rqSt b).2.1 = 0 := by rw [← e]; exact h
      have hc : cutAt 2048 0 (b.take 2048) = (some 0, 0) := by
        have eb : b = [13, 10, 13, 10] ++ b.drop 4 := by rw [← he, List.take_append_drop]
        rw [eb]
        simp [cutAt]
      have hs : ¬ rqSt (tx ([] : List UInt8)) = 0 := by decide +kernel
      rw [headL_bad hc (by rw [List.take_zero]; exact hs)] at hz
      exact hz rfl
    · exact q
  · rw [hj] at he
    rw [← he, List.drop_take, show j + 4 - j = 4 by omega]
end Go.Proofs.YthbjdbookiejeaaGreatDoor

/- An append in a region that draws its order. -/
namespace Go.Proofs.YthbjdbookiejeaaGreatDoor
open Go.RowKit
set_option linter.unusedVariables false

theorem step_own {ops : Array Oper} {o : Oper} {a : Act} {K : Act → World → Prop} {Q : Exit → Act → World → Prop} {E : Prop} {w : World} (hgd : o.guard = none) (s x : Operand)
    (ho : o.op = .call { callee := .builtin .append, args := #[s, x], argTypes := #[22, 22] }) (hty : o.type = 22)
    (B : Nat) (v : Value) (X : List UInt8) (hs : a.eval s = v) (hown : Own B w v X) (k : Nat) (ad : Option Addr) (n c : Nat) (Y : List UInt8) (hx : a.eval x = .slice ad n c) (hsrc : Src w k (.slice ad n c) Y) (hnil : ad = none → c = 0) (hmax : X.length + Y.length ≤ 140737488355328) (hB : B ≤ w.heap.size)
    (h : ∀ v' w', Own B w' v' (X ++ Y) → Below B w w' → K (a.put o.dst v') w') :
    if Region.wanted o (yielded ops a.tmps) = true then Oper.wp Tryz.prog o a w K Q else E := by
  have hw : Region.wanted o (yielded ops a.tmps) = true := by simp [Region.wanted, hgd]
  rw [if_pos hw]
  obtain ⟨v', w', hr, O, Bl⟩ := own_append hown hsrc hnil hmax hB
  unfold Oper.wp execOp
  simp only [ho, hty, resolve, invoke, builtin, Sem.run_bind, Sem.run_pure, Result.andThen_ok, List.map_toArray, List.map_cons, List.map_nil, hs, hx, hr]
  exact h v' w' O Bl
theorem Own.drewN {B : Nat} {w : World} {v : Value} {X : List UInt8} (h : Own B w v X) (n : Nat) : Own B (w.drewN n) v X := by
  obtain ⟨h1, h2⟩ := h
  refine ⟨h1, ?_⟩
  rcases h2 with h2 | ⟨g, cap, cur, hv, hg, hh, r⟩
  · exact .inl h2
  · exact .inr ⟨g, cap, cur, hv, hg, by simpa [World.drewN] using hh, r⟩
end Go.Proofs.YthbjdbookiejeaaGreatDoor

/- HttpBare walked. -/
namespace Go.Proofs.YthbjdbookiejeaaGreatDoor
open Go.RowKit
set_option linter.unusedVariables false

/-- Bytes appended; which block may turn. -/
theorem own_append2 {B : Nat} {w : World} {k : Nat} {v : Value} {X Y : List UInt8} {a : Option Addr} {n c : Nat} (h : Own B w v X) (hs : Src w k (.slice a n c) Y) (hnil : a = none → c = 0) (hmax : X.length + Y.length ≤ 140737488355328) (hB : B ≤ w.heap.size) :
    ∃ v' w', (Builtin.append_ #[22, 22] 22 #[v, .slice a n c]).run Tryz.prog w = .ok v' w' ∧ Own B w' v' (X ++ Y) ∧ Below B w w' ∧ (∀ k, k < w.heap.size → v.ownBlock ≠ some k → w'.heap[k]? = w.heap[k]?) := by
  obtain ⟨i, hi, hz0, hz1, hz2⟩ := info_parts infoB3
  obtain ⟨a', c', e, h1, h2, h3⟩ := hs
  obtain ⟨e1, e2, e3⟩ := slice_inj e
  subst e1 e2 e3
  have hmx : X.length + Y.length ≤ maxLen := by unfold maxLen; omega
  cases a with
  | none =>
    have hc := hnil rfl
    have hy : Y = [] := by
      rcases Nat.eq_zero_or_pos Y.length with q | q
      · exact List.eq_nil_of_length_eq_zero q
      · obtain ⟨_, q, _⟩ := h3 q; cases q
    subst hy hc
    exact ⟨v, w, run_append_owned_none w B 22 22 5 i 1 Tryz.underlying22 hi v _ _ h, by rw [List.append_nil]; exact h, Below.refl _ _, fun _ _ _ => rfl⟩
  | some ad =>
    obtain ⟨v', w', hr, q1, q2, q3, q4⟩ := run_append_own_at (P := Tryz.prog) w B 22 22 5 i (.int .u8 0) 1 1 Tryz.underlying22 hi hz0 hz1 hz2 rfl (by decide) v X.length (rowB X) h ad Y.length c (rowB Y) (by rw [rowB_length]; omega)
      (fun j u hj => by
        unfold rowB at hj
        rw [List.getElem?_map] at hj
        obtain ⟨x, hx, rfl⟩ := Option.map_eq_some_iff.1 hj
        have hjl := (List.getElem?_eq_some_iff.1 hx).1
        obtain ⟨off, ha, hc⟩ := h3 (by omega)
        have : ad = ⟨k, off, none⟩ := by simpa using ha
        subst this
        rw [addr_add, hc j hjl, (List.getElem?_eq_some_iff.1 hx).2]) (bvs_one _) hmx (by omega) hB
    refine ⟨v', w', hr, ?_, (Below.refl _ _).grown q2 hB (fun q hq => (h.lt q hq).1), fun k hk hn => q2.block k hk (fun e => hn e.symm)⟩
    unfold Own
    rw [List.length_append, rowB_app]; exact q1
theorem step_ownB {ops : Array Oper} {o : Oper} {a : Act} {K : Act → World → Prop} {Q : Exit → Act → World → Prop} {E : Prop} {w : World} (hgd : o.guard = none) (s x : Operand)
    (ho : o.op = .call { callee := .builtin .append, args := #[s, x], argTypes := #[22, 22] }) (hty : o.type = 22)
    (B : Nat) (v : Value) (X : List UInt8) (hs : a.eval s = v) (hown : Own B w v X) (k : Nat) (ad : Option Addr) (n c : Nat) (Y : List UInt8) (hx : a.eval x = .slice ad n c) (hsrc : Src w k (.slice ad n c) Y) (hnil : ad = none → c = 0) (hmax : X.length + Y.length ≤ 140737488355328) (hB : B ≤ w.heap.size)
    (g : Nat) (hg : v.ownBlock = some g) (h : ∀ v' w', Own B w' v' (X ++ Y) → Below B w w' → (∀ k, k < w.heap.size → ¬ k = g → w'.heap[k]? = w.heap[k]?) → K (a.put o.dst v') w') :
    if Region.wanted o (yielded ops a.tmps) = true then Oper.wp Tryz.prog o a w K Q else E := by
  have hw : Region.wanted o (yielded ops a.tmps) = true := by simp [Region.wanted, hgd]
  rw [if_pos hw]
  obtain ⟨v', w', hr, O, Bl, Kl⟩ := own_append2 hown hsrc hnil hmax hB
  unfold Oper.wp execOp
  simp only [ho, hty, resolve, invoke, builtin, Sem.run_bind, Sem.run_pure, Result.andThen_ok, List.map_toArray, List.map_cons, List.map_nil, hs, hx, hr]
  exact h v' w' O Bl (fun k hk hn => Kl k hk (by rw [hg]; intro e; exact hn (Option.some.inj e).symm))
theorem own_b0 {W : World} {B g : Nat} (hB : B ≤ g) (h : W.heap[g]? = some (.cells #[] 5)) : Own B W (.slice (some ⟨g, 0, none⟩) 0 0) [] :=
  ⟨rfl, .inr ⟨g, 0, #[], rfl, hB, h, Nat.le_refl _, by decide, rfl, rfl⟩⟩
theorem bblk2 (w : World) (o o' : Obj) : ((w.alloc o).alloc o').heap[w.heap.size + 1]? = some o' := by
  have k := tblk_new (w.alloc o) o'
  rw [show (w.alloc o).heap.size = w.heap.size + 1 from by simp] at k
  exact k
theorem src_one {W : World} {g : Nat} {c : UInt8} {v : Value} (h : W.heap[g]? = some (.cells #[v] 5)) (hv : bv c = v) : Src W g (.slice (some ⟨g, 0, none⟩) 1 1) [c] := by
  subst hv
  exact src_blk h rfl (by decide) rfl
theorem reqQ_le (b : List UInt8) : (reqQ b).n ≤ b.length := by
  rcases reqQ_three b with h | ⟨s, h, _⟩ | ⟨m, t, mi, fs, x, n, h, _, hn⟩
  · rw [h]; exact Nat.zero_le _
  · rw [h]; exact Nat.zero_le _
  · rw [h]; exact hn
/-- No end of a head yet. -/
def NoE (b : List UInt8) (k : Nat) : Prop := ∀ p, 0 < p → p < k → (b.drop p).take 4 ≠ [13, 10, 13, 10]
theorem NoE.next {b : List UInt8} {k : Nat} (h : NoE b k) (hk : (b.drop k).take 4 ≠ [13, 10, 13, 10] ∨ k = 0) : NoE b (k + 1) := by
  intro p h0 h1
  by_cases e : p = k
  · subst e
    rcases hk with q | q
    · exact q
    · omega
  · exact h p h0 (by omega)
theorem eq4 {l : List UInt8} (h : l ≠ [13, 10, 13, 10]) : ((⟨l.toArray⟩ : ByteArray).toList == [13, 10, 13, 10]) = false := by
  rw [lit_list]
  simpa using h

set_option maxRecDepth 100000 in
set_option maxHeartbeats 8000000 in
theorem bare8_walk (kb len cap : Nat) (a : Option Addr) (b : List UInt8) (at_ : Int) (cr : Bool) (w : World) (hs : Src w kb (.slice a len cap) b) (hk : 0 < b.length → kb < w.heap.size) (hL : Lv w) :
    Calls Tryz.prog 7 #[.slice a len cap, .int .i64 at_, .bool cr] w fun e w' => e = .returned (.bool true) ∧ Below w.heap.size w w' := by
  have HA : Hid (Calls Tryz.prog 8 #[] w fun e w' => e = .returned (.bool true) ∧ Below w.heap.size w w') := asking_any w hL
  have hl := hs.len
  by_cases hbig : 2000 < len
  · have hb2 : (2000 : Int) < (len : Int) := by omega
    clear hs hk hL hl
    go_enter Tryz.func7, Tryz.ntmps7
    go_wp2_with fail
    refine HA.out.mono ?_
    rintro e w1 ⟨rfl, B1⟩
    go_wp2
    go_ret
    exact ⟨rfl, B1⟩
  · have hb2 : decide ((2000 : Int) < (len : Int)) = false := decide_eq_false (by omega)
    obtain ⟨hl1, hl2, hl3⟩ := hl
    subst hl1
    unfold maxLen at hl3
    have HR : Hid (∀ W, Below w.heap.size w W → Calls Tryz.prog 9 #[.slice a b.length cap] W (ReqR W (reqQ b))) := fun W B => hreq_any b kb cap a W (hs.keep hk B) (fun q => Nat.lt_of_lt_of_le (hk q) B.size) (hL.below B).max (by omega)
    have hC := reqQ_cases b
    have hle := reqQ_le b
    have hpos := fun h => head_pos (b := b) h
    have hq3 : (∃ s, reqQ b = rdNo s) ∨ ∃ m t mi fs x n, reqQ b = ⟨m, t, mi, fs, x, n, 0⟩ ∧ ¬ (headQ b).n = 0 ∧ (headQ b).n ≤ n ∧ ¬ n = 0 := by
      rcases hC with ⟨_, h⟩ | ⟨h0, _, ⟨s, h, _⟩ | ⟨x, n, h, h1, h2⟩⟩
      · exact .inl ⟨_, h⟩
      · exact .inl ⟨_, h⟩
      · exact .inr ⟨_, _, _, _, x, n, h, h0, h1, h2⟩
    clear hC
    rcases hq3 with ⟨s, hq⟩ | ⟨m, t, mi, fs, x, n, hq, hh0, hhn, hn0⟩
    · rw [hq] at HR
      unfold ReqR rdV rdNo at HR
      simp only at HR
      clear hs hk hL hpos hle hq
      go_enter Tryz.func7, Tryz.ntmps7
      go_wp2_with fail
      refine HA.out.mono ?_
      rintro e w1 ⟨rfl, B1⟩
      go_wp2_with fail
      refine (HR.out _ B1).mono ?_
      rintro e w2 ⟨fa, ba, fc, bc, rfl, _, _, B2⟩
      have D2 := B1.trans (B2.mono B1.size)
      go_wp2
      go_ret
      exact ⟨rfl, D2.alloc D2.size _⟩
    · rw [hq] at HR hle
      unfold ReqR rdV at HR
      simp only at HR hle
      clear hq
      obtain ⟨j, hj, hj0, hjl, hjd⟩ := hpos hh0
      have hB1 : Hid (∀ (i : Nat) (c : UInt8), i < j → Bar b i c → reqQ (ins b i c) = rdNo 400) := fun i c h hb => req_bare b i c (by omega) (by omega) hb
      have HJ : Hid (∀ k, NoE b k → k ≤ j) := fun k h => by
        rcases Nat.lt_or_ge j k with q | q
        · exact absurd hjd (h j hj0 q)
        · exact q
      have hnj : j + 4 ≤ n := by omega
      clear hpos hh0 hj hjd
      obtain ⟨a', c', e, g1, g2, g3⟩ := hs
      obtain ⟨e1, e2, e3⟩ := slice_inj e
      subst e1 e3
      obtain ⟨off, rfl, hcell⟩ := g3 (by omega)
      have hs : Src w kb (.slice (some ⟨kb, off, none⟩) b.length cap) b := ⟨_, _, rfl, g1, g2, g3⟩
      have hk' : kb < w.heap.size := hk (by omega)
      have HS : Hid (∀ W, Below w.heap.size w W → Src W kb (.slice (some ⟨kb, off, none⟩) b.length cap) b) := fun W B => hs.keep hk B
      have HC : Hid (∀ W, Below w.heap.size w W → ∀ (i : Nat) (hi : i < b.length), W.cell? ⟨kb, off + i, none⟩ = some (.int .u8 (b[i].toNat : Int))) := fun W B i hi => (B.cell (p := ⟨kb, off + i, none⟩) hk').trans (hcell i hi)
      have HCV : Hid (∀ W, Below w.heap.size w W → ∀ k, k + 4 ≤ b.length → (convert 22 9 (.slice (some ⟨kb, off + k, none⟩) 4 (cap - k))).run Tryz.prog W = .ok (.string ⟨((b.drop k).take 4).toArray⟩) W) := fun W B k h4 => by
        have q := ((hs.keep hk B).take (m := k + 4) (by omega)).cut (m := k) (a' := some ⟨kb, off + k, none⟩) (by rw [List.length_take]; omega) (fun _ => by rw [Option.map_some, addr_add])
        have e := conv_back q (by omega)
        rw [List.drop_take, show k + 4 - k = 4 by omega] at e
        exact e
      have HL : Hid (Lv w) := hL
      have hn1 : (((n : Nat) : Int) == 0) = false := by simp; omega
      clear g1 g2 g3 e hcell hk hL hs hn0
      go_enter Tryz.func7, Tryz.ntmps7
      go_wp2_with fail
      refine HA.out.mono ?_
      rintro e w1 ⟨rfl, B1⟩
      go_wp2_with fail
      refine (HR.out _ B1).mono ?_
      rintro e w2 ⟨fa, ba, fc, bc, rfl, _, _, B2⟩
      have D2 := B1.trans (B2.mono B1.size)
      have D3 := D2.alloc D2.size (.cells #[.string m, .string t, .int .i64 mi, .slice fa fs.length fc, .slice ba x.length bc] 26)
      clear B1 B2 HA HR
      go_wp2_with fail
      generalize w2.alloc (.cells #[.string m, .string t, .int .i64 mi, .slice fa fs.length fc, .slice ba x.length bc] 26) = w3 at *
      have HD : Hid (Below w.heap.size w w3) := D3
      go_loopw [10, 11] (fun ve vi wr => ∃ k e : Nat, k ≤ n ∧ vi = .int .i64 k ∧ ve = .int .i64 e ∧ Hid (wr = w3) ∧ ((e = 0 ∧ Hid (NoE b k)) ∨ (0 < e ∧ e ≤ j))) (fun ve vi _ => n + 1 - (intOf vi).toNat)
      case atStart => exact ⟨0, 0, Nat.zero_le _, rfl, rfl, rfl, .inl ⟨rfl, fun p _ h => absurd h (by omega)⟩⟩
      case round =>
        obtain ⟨k, e, hkn, rfl, rfl, hW, hE⟩ := hrel
        have ew := hW.out
        subst ew
        clear hW D2 D3
        rcases hE with ⟨rfl, hE⟩ | ⟨he0, hej⟩
        · by_cases hlt : k + 3 < n
          · have hlt' : (k : Int) + 3 < (n : Int) := by omega
            have hcv := HCV.out wr HD.out k (by omega)
            have hkc : k < cap := by omega
            have hc1 : (k : Int) + 4 ≤ (cap : Int) := by omega
            by_cases hm : (b.drop k).take 4 = [13, 10, 13, 10]
            · rw [hm] at hcv
              have hkj := HJ.out k hE.out
              rcases Nat.eq_zero_or_pos k with h0 | h0
              · have hE2 : Hid (NoE b (k + 1)) := hE.out.next (.inr h0)
                have H0 : Hid (k = 0) := h0
                clear hE h0
                go_wp2
                go_roundw
                case rel => exact ⟨k + 1, k, by omega, by go_num, rfl, by first | exact rfl | exact True.intro, .inl ⟨H0.out, hE2⟩⟩
                case measure => simp [intOf]; omega
              · clear hE
                go_wp2
                go_roundw
                case rel => exact ⟨k + 1, k, by omega, by go_num, rfl, by first | exact rfl | exact True.intro, .inr ⟨h0, hkj⟩⟩
                case measure => simp [intOf]; omega
            · have hE2 : Hid (NoE b (k + 1)) := hE.out.next (.inl hm)
              have hx := eq4 hm
              generalize (⟨((b.drop k).take 4).toArray⟩ : ByteArray) = z at *
              clear hE hm
              go_wp2
              go_roundw
              case rel => exact ⟨k + 1, 0, by omega, by go_num, rfl, by first | exact rfl | exact True.intro, .inl ⟨rfl, hE2⟩⟩
              case measure => simp [intOf]; omega
          · exfalso
            have := HJ.out k hE.out
            omega
        · by_cases hlt : k + 3 < n
          · have hlt' : (k : Int) + 3 < (n : Int) := by omega
            have hez : ((e : Int) == 0) = false := by simp; omega
            obtain ⟨t, ht, hbt0⟩ := and_mask at_ 1048575 (by decide)
            have hbt : bits BinOp.and IntKind.i64 at_ 1048575 = (t : Int) := hbt0
            clear hbt0
            obtain ⟨i, hi⟩ : ∃ i, i = t % e := ⟨_, rfl⟩
            have hie : i < e := by rw [hi]; exact Nat.mod_lt _ he0
            have hrem : ((t : Int)).tmod (e : Int) = (i : Int) := by rw [Int.tmod_eq_emod_of_nonneg (by omega), hi, Int.natCast_emod]
            have hez2 : ¬ ((e : Int) = 0) := by omega
            clear hi ht
            have hil : i < b.length := by omega
            have hi2 : (i : Int) < (b.length : Int) := by omega
            have hci := HC.out wr HD.out i hil
            cases h10 : ((b[i].toNat : Int) == 10)
            · have n10 : b[i] ≠ 10 := fun q => by rw [q] at h10; exact absurd h10 (by decide)
              cases cr
              · rcases Nat.eq_zero_or_pos i with h0 | h0
                · have HBAR : Hid (reqQ (ins b i 10) = rdNo 400) := hB1.out i 10 (by omega) ⟨hil, n10, .inr ⟨rfl, .inl h0⟩⟩
                  have hi0 : decide (0 < i) = false := decide_eq_false (by omega)
                  clear h0
                  have U0 : Below wr.heap.size wr wr := Below.refl _ _
                  have hic : (i : Int) ≤ (cap : Int) := by omega
                  have hib : (i : Int) ≤ (b.length : Int) := by omega
                  have hicn : i < cap := by omega
                  have hcne : ¬ cap = i := by omega
                  have hicm : i ≤ cap := by omega
                  have hibm : i ≤ b.length := by omega
                  have HST : Hid (∀ W, Below wr.heap.size wr W → Src W kb (.slice (some ⟨kb, off, none⟩) i cap) (b.take i)) := fun W B => (HS.out W (HD.out.trans (B.mono HD.out.size))).take (by omega)
                  have HSD : Hid (∀ W, Below wr.heap.size wr W → Src W kb (.slice (some ⟨kb, off + i, none⟩) (b.length - i) (cap - i)) (b.drop i)) := fun W B => (HS.out W (HD.out.trans (B.mono HD.out.size))).cut (by omega) (fun _ => by rw [Option.map_some, addr_add])
                  have HM1 : Hid (([] : List UInt8).length + (b.take i).length ≤ 140737488355328) := by rw [Hid, List.length_take]; simp; omega
                  have HM2 : Hid (([] ++ b.take i : List UInt8).length + ([10] : List UInt8).length ≤ 140737488355328) := by rw [Hid, List.nil_append, List.length_take]; simp; omega
                  have HM3 : Hid (([] ++ b.take i ++ [10] : List UInt8).length + (b.drop i).length ≤ 140737488355328) := by rw [Hid, List.nil_append, List.length_append, List.length_take, List.length_drop]; simp; omega
                  have HQ : Hid (∀ (W : World) (v : Value), Below w.heap.size w W → Own wr.heap.size W v ([] ++ b.take i ++ [10] ++ b.drop i) → Calls Tryz.prog 9 #[v] W (ReqR W (rdNo 400))) := fun W v B O => by
                    have e : ([] ++ b.take i ++ [10] ++ b.drop i : List UInt8) = ins b i 10 := by unfold ins; rw [List.nil_append, List.append_assoc, List.singleton_append]
                    rw [e] at O
                    obtain ⟨ka, S, hka⟩ := O.src
                    obtain ⟨ax, cx, rfl, _⟩ := O.form
                    have q := hreq_any (ins b i 10) ka cx ax W S (fun z => (hka z).2) (HL.out.below B).max (by rw [ins_len]; omega)
                    rw [HBAR.out] at q
                    exact q
                  unfold ReqR rdV rdNo at HQ
                  simp only at HQ
                  clear HBAR
                  go_wp2_with fail
                  go_region_held3 (fun _ => True) (go_keep) (first | (have g7 := O7; clear g7; refine step_own rfl _ _ rfl rfl wr.heap.size _ ([] ++ b.take i ++ [10]) rfl O7 kb _ _ _ (b.drop i) rfl (HSD.out _ (by first | exact (((((Below.refl _ _).alloc (Nat.le_refl _) _).drew).trans B6).alloc (Nat.le_trans (by simp) B6.size) _).trans B7 | exact ((((((Below.refl _ _).alloc (Nat.le_refl _) _).alloc (by simp) _).drew).trans B6)).trans B7)) (fun e => by cases e) HM3.out (by have := ((by first | exact (((((Below.refl _ _).alloc (Nat.le_refl _) _).drew).trans B6).alloc (Nat.le_trans (by simp) B6.size) _).trans B7 | exact ((((((Below.refl _ _).alloc (Nat.le_refl _) _).alloc (by simp) _).drew).trans B6)).trans B7) : Below wr.heap.size wr w7).size; exact this) ?_; intro v8 w8 O8 B8) | (have g6 := O6; clear g6; refine step_own rfl _ _ rfl rfl wr.heap.size _ ([] ++ b.take i) rfl (by first | exact O6 | exact Own.keep O6 ((Below.refl _ _).alloc (Nat.le_refl _) _)) _ _ _ _ [10] rfl (by first | exact src_one (tblk_new _ _) rfl | exact src_one ((K6 _ (by simp <;> omega) (by simp <;> omega)).trans (bblk2 _ _ _)) rfl | exact src_one ((K6 _ (by simp <;> omega) (by simp <;> omega)).trans ((Below.heap_alloc _ _ _ (by simp <;> omega)).trans (tblk_new _ _))) rfl) (fun e => by cases e) HM2.out (by have := B6.size; (simp at this ⊢ <;> omega)) ?_; intro v7 w7 O7 B7) | (refine step_ownB rfl _ _ rfl rfl wr.heap.size _ [] rfl (own_b0 (by simp <;> omega) (by first | exact tblk_new _ _ | exact (Below.heap_alloc _ _ _ (by simp <;> omega)).trans (tblk_new _ _) | exact bblk2 _ _ _)) kb _ _ _ (b.take i) rfl (HST.out _ (by repeat (refine Below.drew ?_); first | exact U0.alloc U0.size _ | exact (U0.alloc U0.size _).alloc (by have := U0.size; simp <;> omega) _)) (fun e => by cases e) HM1.out (by simp <;> omega) _ rfl ?_; intro v6 w6 O6 B6 K6))
                  all_goals
                    have D7 : Below wr.heap.size wr w7 := (by first | exact (((((Below.refl _ _).alloc (Nat.le_refl _) _).drew).trans B6).alloc (Nat.le_trans (by simp) B6.size) _).trans B7 | exact ((((((Below.refl _ _).alloc (Nat.le_refl _) _).alloc (by simp) _).drew).trans B6)).trans B7)
                    have D8 := HD.out.trans ((D7.trans B8).mono HD.out.size)
                    have HO8 : Hid (Own wr.heap.size w8 v8 ([] ++ b.take i ++ [10] ++ b.drop i)) := O8
                    clear O6 O7 O8 B6 B7 B8 D7 K6
                    go_wp2_with fail
                    refine (HQ.out _ _ D8 HO8.out).mono ?_
                    rintro e w9 ⟨fa9, ba9, fc9, bc9, rfl, _, _, B9⟩
                    have D9 := D8.trans (B9.mono D8.size)
                    have D10 := D9.alloc D9.size (.cells #[.string ⟨#[]⟩, .string ⟨#[]⟩, .int .i64 0, .slice fa9 0 fc9, .slice ba9 0 bc9] 26)
                    clear D9 B9 HO8 D8
                    go_wp2
                    go_ret
                    exact ⟨rfl, D10⟩
                · have hi0 : decide (0 < i) = true := decide_eq_true h0
                  have hi1 : i - 1 < b.length := by omega
                  have hcj := HC.out wr HD.out (i - 1) hi1
                  cases h13 : ((b[i - 1].toNat : Int) == 13)
                  · have HBAR : Hid (reqQ (ins b i 10) = rdNo 400) := hB1.out i 10 (by omega) ⟨hil, n10, .inr ⟨rfl, .inr ⟨hi1, fun q => by rw [q] at h13; exact absurd h13 (by decide)⟩⟩⟩
                    have U0 : Below wr.heap.size wr wr := Below.refl _ _
                    have hic : (i : Int) ≤ (cap : Int) := by omega
                    have hib : (i : Int) ≤ (b.length : Int) := by omega
                    have hicn : i < cap := by omega
                    have hcne : ¬ cap = i := by omega
                    have hicm : i ≤ cap := by omega
                    have hibm : i ≤ b.length := by omega
                    have HST : Hid (∀ W, Below wr.heap.size wr W → Src W kb (.slice (some ⟨kb, off, none⟩) i cap) (b.take i)) := fun W B => (HS.out W (HD.out.trans (B.mono HD.out.size))).take (by omega)
                    have HSD : Hid (∀ W, Below wr.heap.size wr W → Src W kb (.slice (some ⟨kb, off + i, none⟩) (b.length - i) (cap - i)) (b.drop i)) := fun W B => (HS.out W (HD.out.trans (B.mono HD.out.size))).cut (by omega) (fun _ => by rw [Option.map_some, addr_add])
                    have HM1 : Hid (([] : List UInt8).length + (b.take i).length ≤ 140737488355328) := by rw [Hid, List.length_take]; simp; omega
                    have HM2 : Hid (([] ++ b.take i : List UInt8).length + ([10] : List UInt8).length ≤ 140737488355328) := by rw [Hid, List.nil_append, List.length_take]; simp; omega
                    have HM3 : Hid (([] ++ b.take i ++ [10] : List UInt8).length + (b.drop i).length ≤ 140737488355328) := by rw [Hid, List.nil_append, List.length_append, List.length_take, List.length_drop]; simp; omega
                    have HQ : Hid (∀ (W : World) (v : Value), Below w.heap.size w W → Own wr.heap.size W v ([] ++ b.take i ++ [10] ++ b.drop i) → Calls Tryz.prog 9 #[v] W (ReqR W (rdNo 400))) := fun W v B O => by
                      have e : ([] ++ b.take i ++ [10] ++ b.drop i : List UInt8) = ins b i 10 := by unfold ins; rw [List.nil_append, List.append_assoc, List.singleton_append]
                      rw [e] at O
                      obtain ⟨ka, S, hka⟩ := O.src
                      obtain ⟨ax, cx, rfl, _⟩ := O.form
                      have q := hreq_any (ins b i 10) ka cx ax W S (fun z => (hka z).2) (HL.out.below B).max (by rw [ins_len]; omega)
                      rw [HBAR.out] at q
                      exact q
                    unfold ReqR rdV rdNo at HQ
                    simp only at HQ
                    clear HBAR
                    go_wp2_with fail
                    go_region_held3 (fun _ => True) (go_keep) (first | (have g7 := O7; clear g7; refine step_own rfl _ _ rfl rfl wr.heap.size _ ([] ++ b.take i ++ [10]) rfl O7 kb _ _ _ (b.drop i) rfl (HSD.out _ (by first | exact (((((Below.refl _ _).alloc (Nat.le_refl _) _).drew).trans B6).alloc (Nat.le_trans (by simp) B6.size) _).trans B7 | exact ((((((Below.refl _ _).alloc (Nat.le_refl _) _).alloc (by simp) _).drew).trans B6)).trans B7)) (fun e => by cases e) HM3.out (by have := ((by first | exact (((((Below.refl _ _).alloc (Nat.le_refl _) _).drew).trans B6).alloc (Nat.le_trans (by simp) B6.size) _).trans B7 | exact ((((((Below.refl _ _).alloc (Nat.le_refl _) _).alloc (by simp) _).drew).trans B6)).trans B7) : Below wr.heap.size wr w7).size; exact this) ?_; intro v8 w8 O8 B8) | (have g6 := O6; clear g6; refine step_own rfl _ _ rfl rfl wr.heap.size _ ([] ++ b.take i) rfl (by first | exact O6 | exact Own.keep O6 ((Below.refl _ _).alloc (Nat.le_refl _) _)) _ _ _ _ [10] rfl (by first | exact src_one (tblk_new _ _) rfl | exact src_one ((K6 _ (by simp <;> omega) (by simp <;> omega)).trans (bblk2 _ _ _)) rfl | exact src_one ((K6 _ (by simp <;> omega) (by simp <;> omega)).trans ((Below.heap_alloc _ _ _ (by simp <;> omega)).trans (tblk_new _ _))) rfl) (fun e => by cases e) HM2.out (by have := B6.size; (simp at this ⊢ <;> omega)) ?_; intro v7 w7 O7 B7) | (refine step_ownB rfl _ _ rfl rfl wr.heap.size _ [] rfl (own_b0 (by simp <;> omega) (by first | exact tblk_new _ _ | exact (Below.heap_alloc _ _ _ (by simp <;> omega)).trans (tblk_new _ _) | exact bblk2 _ _ _)) kb _ _ _ (b.take i) rfl (HST.out _ (by repeat (refine Below.drew ?_); first | exact U0.alloc U0.size _ | exact (U0.alloc U0.size _).alloc (by have := U0.size; simp <;> omega) _)) (fun e => by cases e) HM1.out (by simp <;> omega) _ rfl ?_; intro v6 w6 O6 B6 K6))
                    all_goals
                      have D7 : Below wr.heap.size wr w7 := (by first | exact (((((Below.refl _ _).alloc (Nat.le_refl _) _).drew).trans B6).alloc (Nat.le_trans (by simp) B6.size) _).trans B7 | exact ((((((Below.refl _ _).alloc (Nat.le_refl _) _).alloc (by simp) _).drew).trans B6)).trans B7)
                      have D8 := HD.out.trans ((D7.trans B8).mono HD.out.size)
                      have HO8 : Hid (Own wr.heap.size w8 v8 ([] ++ b.take i ++ [10] ++ b.drop i)) := O8
                      clear O6 O7 O8 B6 B7 B8 D7 K6
                      go_wp2_with fail
                      refine (HQ.out _ _ D8 HO8.out).mono ?_
                      rintro e w9 ⟨fa9, ba9, fc9, bc9, rfl, _, _, B9⟩
                      have D9 := D8.trans (B9.mono D8.size)
                      have D10 := D9.alloc D9.size (.cells #[.string ⟨#[]⟩, .string ⟨#[]⟩, .int .i64 0, .slice fa9 0 fc9, .slice ba9 0 bc9] 26)
                      clear D9 B9 HO8 D8
                      go_wp2
                      go_ret
                      exact ⟨rfl, D10⟩
                  · go_wp2
                    go_ret
                    exact ⟨rfl, HD.out⟩
              · cases h13 : ((b[i].toNat : Int) == 13)
                · have HBAR : Hid (reqQ (ins b i 13) = rdNo 400) := hB1.out i 13 (by omega) ⟨hil, n10, .inl ⟨rfl, fun q => by rw [q] at h13; exact absurd h13 (by decide)⟩⟩
                  have U0 : Below wr.heap.size wr wr := Below.refl _ _
                  have hic : (i : Int) ≤ (cap : Int) := by omega
                  have hib : (i : Int) ≤ (b.length : Int) := by omega
                  have hicn : i < cap := by omega
                  have hcne : ¬ cap = i := by omega
                  have hicm : i ≤ cap := by omega
                  have hibm : i ≤ b.length := by omega
                  have HST : Hid (∀ W, Below wr.heap.size wr W → Src W kb (.slice (some ⟨kb, off, none⟩) i cap) (b.take i)) := fun W B => (HS.out W (HD.out.trans (B.mono HD.out.size))).take (by omega)
                  have HSD : Hid (∀ W, Below wr.heap.size wr W → Src W kb (.slice (some ⟨kb, off + i, none⟩) (b.length - i) (cap - i)) (b.drop i)) := fun W B => (HS.out W (HD.out.trans (B.mono HD.out.size))).cut (by omega) (fun _ => by rw [Option.map_some, addr_add])
                  have HM1 : Hid (([] : List UInt8).length + (b.take i).length ≤ 140737488355328) := by rw [Hid, List.length_take]; simp; omega
                  have HM2 : Hid (([] ++ b.take i : List UInt8).length + ([13] : List UInt8).length ≤ 140737488355328) := by rw [Hid, List.nil_append, List.length_take]; simp; omega
                  have HM3 : Hid (([] ++ b.take i ++ [13] : List UInt8).length + (b.drop i).length ≤ 140737488355328) := by rw [Hid, List.nil_append, List.length_append, List.length_take, List.length_drop]; simp; omega
                  have HQ : Hid (∀ (W : World) (v : Value), Below w.heap.size w W → Own wr.heap.size W v ([] ++ b.take i ++ [13] ++ b.drop i) → Calls Tryz.prog 9 #[v] W (ReqR W (rdNo 400))) := fun W v B O => by
                    have e : ([] ++ b.take i ++ [13] ++ b.drop i : List UInt8) = ins b i 13 := by unfold ins; rw [List.nil_append, List.append_assoc, List.singleton_append]
                    rw [e] at O
                    obtain ⟨ka, S, hka⟩ := O.src
                    obtain ⟨ax, cx, rfl, _⟩ := O.form
                    have q := hreq_any (ins b i 13) ka cx ax W S (fun z => (hka z).2) (HL.out.below B).max (by rw [ins_len]; omega)
                    rw [HBAR.out] at q
                    exact q
                  unfold ReqR rdV rdNo at HQ
                  simp only at HQ
                  clear HBAR
                  go_wp2_with fail
                  go_region_held3 (fun _ => True) (go_keep) (first | (have g7 := O7; clear g7; refine step_own rfl _ _ rfl rfl wr.heap.size _ ([] ++ b.take i ++ [13]) rfl O7 kb _ _ _ (b.drop i) rfl (HSD.out _ (by first | exact (((((Below.refl _ _).alloc (Nat.le_refl _) _).drew).trans B6).alloc (Nat.le_trans (by simp) B6.size) _).trans B7 | exact ((((((Below.refl _ _).alloc (Nat.le_refl _) _).alloc (by simp) _).drew).trans B6)).trans B7)) (fun e => by cases e) HM3.out (by have := ((by first | exact (((((Below.refl _ _).alloc (Nat.le_refl _) _).drew).trans B6).alloc (Nat.le_trans (by simp) B6.size) _).trans B7 | exact ((((((Below.refl _ _).alloc (Nat.le_refl _) _).alloc (by simp) _).drew).trans B6)).trans B7) : Below wr.heap.size wr w7).size; exact this) ?_; intro v8 w8 O8 B8) | (have g6 := O6; clear g6; refine step_own rfl _ _ rfl rfl wr.heap.size _ ([] ++ b.take i) rfl (by first | exact O6 | exact Own.keep O6 ((Below.refl _ _).alloc (Nat.le_refl _) _)) _ _ _ _ [13] rfl (by first | exact src_one (tblk_new _ _) rfl | exact src_one ((K6 _ (by simp <;> omega) (by simp <;> omega)).trans (bblk2 _ _ _)) rfl | exact src_one ((K6 _ (by simp <;> omega) (by simp <;> omega)).trans ((Below.heap_alloc _ _ _ (by simp <;> omega)).trans (tblk_new _ _))) rfl) (fun e => by cases e) HM2.out (by have := B6.size; (simp at this ⊢ <;> omega)) ?_; intro v7 w7 O7 B7) | (refine step_ownB rfl _ _ rfl rfl wr.heap.size _ [] rfl (own_b0 (by simp <;> omega) (by first | exact tblk_new _ _ | exact (Below.heap_alloc _ _ _ (by simp <;> omega)).trans (tblk_new _ _) | exact bblk2 _ _ _)) kb _ _ _ (b.take i) rfl (HST.out _ (by repeat (refine Below.drew ?_); first | exact U0.alloc U0.size _ | exact (U0.alloc U0.size _).alloc (by have := U0.size; simp <;> omega) _)) (fun e => by cases e) HM1.out (by simp <;> omega) _ rfl ?_; intro v6 w6 O6 B6 K6))
                  all_goals
                    have D7 : Below wr.heap.size wr w7 := (by first | exact (((((Below.refl _ _).alloc (Nat.le_refl _) _).drew).trans B6).alloc (Nat.le_trans (by simp) B6.size) _).trans B7 | exact ((((((Below.refl _ _).alloc (Nat.le_refl _) _).alloc (by simp) _).drew).trans B6)).trans B7)
                    have D8 := HD.out.trans ((D7.trans B8).mono HD.out.size)
                    have HO8 : Hid (Own wr.heap.size w8 v8 ([] ++ b.take i ++ [13] ++ b.drop i)) := O8
                    clear O6 O7 O8 B6 B7 B8 D7 K6
                    go_wp2_with fail
                    refine (HQ.out _ _ D8 HO8.out).mono ?_
                    rintro e w9 ⟨fa9, ba9, fc9, bc9, rfl, _, _, B9⟩
                    have D9 := D8.trans (B9.mono D8.size)
                    have D10 := D9.alloc D9.size (.cells #[.string ⟨#[]⟩, .string ⟨#[]⟩, .int .i64 0, .slice fa9 0 fc9, .slice ba9 0 bc9] 26)
                    clear D9 B9 HO8 D8
                    go_wp2
                    go_ret
                    exact ⟨rfl, D10⟩
                · go_wp2
                  go_ret
                  exact ⟨rfl, HD.out⟩
            · go_wp2
              go_ret
              exact ⟨rfl, HD.out⟩
          · have hlt' : decide ((k : Int) + 3 < (n : Int)) = false := decide_eq_false (by omega)
            have hez : ((e : Int) == 0) = false := by simp; omega
            obtain ⟨t, ht, hbt0⟩ := and_mask at_ 1048575 (by decide)
            have hbt : bits BinOp.and IntKind.i64 at_ 1048575 = (t : Int) := hbt0
            clear hbt0
            obtain ⟨i, hi⟩ : ∃ i, i = t % e := ⟨_, rfl⟩
            have hie : i < e := by rw [hi]; exact Nat.mod_lt _ he0
            have hrem : ((t : Int)).tmod (e : Int) = (i : Int) := by rw [Int.tmod_eq_emod_of_nonneg (by omega), hi, Int.natCast_emod]
            have hez2 : ¬ ((e : Int) = 0) := by omega
            clear hi ht
            have hil : i < b.length := by omega
            have hi2 : (i : Int) < (b.length : Int) := by omega
            have hci := HC.out wr HD.out i hil
            cases h10 : ((b[i].toNat : Int) == 10)
            · have n10 : b[i] ≠ 10 := fun q => by rw [q] at h10; exact absurd h10 (by decide)
              cases cr
              · rcases Nat.eq_zero_or_pos i with h0 | h0
                · have HBAR : Hid (reqQ (ins b i 10) = rdNo 400) := hB1.out i 10 (by omega) ⟨hil, n10, .inr ⟨rfl, .inl h0⟩⟩
                  have hi0 : decide (0 < i) = false := decide_eq_false (by omega)
                  clear h0
                  have U0 : Below wr.heap.size wr wr := Below.refl _ _
                  have hic : (i : Int) ≤ (cap : Int) := by omega
                  have hib : (i : Int) ≤ (b.length : Int) := by omega
                  have hicn : i < cap := by omega
                  have hcne : ¬ cap = i := by omega
                  have hicm : i ≤ cap := by omega
                  have hibm : i ≤ b.length := by omega
                  have HST : Hid (∀ W, Below wr.heap.size wr W → Src W kb (.slice (some ⟨kb, off, none⟩) i cap) (b.take i)) := fun W B => (HS.out W (HD.out.trans (B.mono HD.out.size))).take (by omega)
                  have HSD : Hid (∀ W, Below wr.heap.size wr W → Src W kb (.slice (some ⟨kb, off + i, none⟩) (b.length - i) (cap - i)) (b.drop i)) := fun W B => (HS.out W (HD.out.trans (B.mono HD.out.size))).cut (by omega) (fun _ => by rw [Option.map_some, addr_add])
                  have HM1 : Hid (([] : List UInt8).length + (b.take i).length ≤ 140737488355328) := by rw [Hid, List.length_take]; simp; omega
                  have HM2 : Hid (([] ++ b.take i : List UInt8).length + ([10] : List UInt8).length ≤ 140737488355328) := by rw [Hid, List.nil_append, List.length_take]; simp; omega
                  have HM3 : Hid (([] ++ b.take i ++ [10] : List UInt8).length + (b.drop i).length ≤ 140737488355328) := by rw [Hid, List.nil_append, List.length_append, List.length_take, List.length_drop]; simp; omega
                  have HQ : Hid (∀ (W : World) (v : Value), Below w.heap.size w W → Own wr.heap.size W v ([] ++ b.take i ++ [10] ++ b.drop i) → Calls Tryz.prog 9 #[v] W (ReqR W (rdNo 400))) := fun W v B O => by
                    have e : ([] ++ b.take i ++ [10] ++ b.drop i : List UInt8) = ins b i 10 := by unfold ins; rw [List.nil_append, List.append_assoc, List.singleton_append]
                    rw [e] at O
                    obtain ⟨ka, S, hka⟩ := O.src
                    obtain ⟨ax, cx, rfl, _⟩ := O.form
                    have q := hreq_any (ins b i 10) ka cx ax W S (fun z => (hka z).2) (HL.out.below B).max (by rw [ins_len]; omega)
                    rw [HBAR.out] at q
                    exact q
                  unfold ReqR rdV rdNo at HQ
                  simp only at HQ
                  clear HBAR
                  go_wp2_with fail
                  go_region_held3 (fun _ => True) (go_keep) (first | (have g7 := O7; clear g7; refine step_own rfl _ _ rfl rfl wr.heap.size _ ([] ++ b.take i ++ [10]) rfl O7 kb _ _ _ (b.drop i) rfl (HSD.out _ (by first | exact (((((Below.refl _ _).alloc (Nat.le_refl _) _).drew).trans B6).alloc (Nat.le_trans (by simp) B6.size) _).trans B7 | exact ((((((Below.refl _ _).alloc (Nat.le_refl _) _).alloc (by simp) _).drew).trans B6)).trans B7)) (fun e => by cases e) HM3.out (by have := ((by first | exact (((((Below.refl _ _).alloc (Nat.le_refl _) _).drew).trans B6).alloc (Nat.le_trans (by simp) B6.size) _).trans B7 | exact ((((((Below.refl _ _).alloc (Nat.le_refl _) _).alloc (by simp) _).drew).trans B6)).trans B7) : Below wr.heap.size wr w7).size; exact this) ?_; intro v8 w8 O8 B8) | (have g6 := O6; clear g6; refine step_own rfl _ _ rfl rfl wr.heap.size _ ([] ++ b.take i) rfl (by first | exact O6 | exact Own.keep O6 ((Below.refl _ _).alloc (Nat.le_refl _) _)) _ _ _ _ [10] rfl (by first | exact src_one (tblk_new _ _) rfl | exact src_one ((K6 _ (by simp <;> omega) (by simp <;> omega)).trans (bblk2 _ _ _)) rfl | exact src_one ((K6 _ (by simp <;> omega) (by simp <;> omega)).trans ((Below.heap_alloc _ _ _ (by simp <;> omega)).trans (tblk_new _ _))) rfl) (fun e => by cases e) HM2.out (by have := B6.size; (simp at this ⊢ <;> omega)) ?_; intro v7 w7 O7 B7) | (refine step_ownB rfl _ _ rfl rfl wr.heap.size _ [] rfl (own_b0 (by simp <;> omega) (by first | exact tblk_new _ _ | exact (Below.heap_alloc _ _ _ (by simp <;> omega)).trans (tblk_new _ _) | exact bblk2 _ _ _)) kb _ _ _ (b.take i) rfl (HST.out _ (by repeat (refine Below.drew ?_); first | exact U0.alloc U0.size _ | exact (U0.alloc U0.size _).alloc (by have := U0.size; simp <;> omega) _)) (fun e => by cases e) HM1.out (by simp <;> omega) _ rfl ?_; intro v6 w6 O6 B6 K6))
                  all_goals
                    have D7 : Below wr.heap.size wr w7 := (by first | exact (((((Below.refl _ _).alloc (Nat.le_refl _) _).drew).trans B6).alloc (Nat.le_trans (by simp) B6.size) _).trans B7 | exact ((((((Below.refl _ _).alloc (Nat.le_refl _) _).alloc (by simp) _).drew).trans B6)).trans B7)
                    have D8 := HD.out.trans ((D7.trans B8).mono HD.out.size)
                    have HO8 : Hid (Own wr.heap.size w8 v8 ([] ++ b.take i ++ [10] ++ b.drop i)) := O8
                    clear O6 O7 O8 B6 B7 B8 D7 K6
                    go_wp2_with fail
                    refine (HQ.out _ _ D8 HO8.out).mono ?_
                    rintro e w9 ⟨fa9, ba9, fc9, bc9, rfl, _, _, B9⟩
                    have D9 := D8.trans (B9.mono D8.size)
                    have D10 := D9.alloc D9.size (.cells #[.string ⟨#[]⟩, .string ⟨#[]⟩, .int .i64 0, .slice fa9 0 fc9, .slice ba9 0 bc9] 26)
                    clear D9 B9 HO8 D8
                    go_wp2
                    go_ret
                    exact ⟨rfl, D10⟩
                · have hi0 : decide (0 < i) = true := decide_eq_true h0
                  have hi1 : i - 1 < b.length := by omega
                  have hcj := HC.out wr HD.out (i - 1) hi1
                  cases h13 : ((b[i - 1].toNat : Int) == 13)
                  · have HBAR : Hid (reqQ (ins b i 10) = rdNo 400) := hB1.out i 10 (by omega) ⟨hil, n10, .inr ⟨rfl, .inr ⟨hi1, fun q => by rw [q] at h13; exact absurd h13 (by decide)⟩⟩⟩
                    have U0 : Below wr.heap.size wr wr := Below.refl _ _
                    have hic : (i : Int) ≤ (cap : Int) := by omega
                    have hib : (i : Int) ≤ (b.length : Int) := by omega
                    have hicn : i < cap := by omega
                    have hcne : ¬ cap = i := by omega
                    have hicm : i ≤ cap := by omega
                    have hibm : i ≤ b.length := by omega
                    have HST : Hid (∀ W, Below wr.heap.size wr W → Src W kb (.slice (some ⟨kb, off, none⟩) i cap) (b.take i)) := fun W B => (HS.out W (HD.out.trans (B.mono HD.out.size))).take (by omega)
                    have HSD : Hid (∀ W, Below wr.heap.size wr W → Src W kb (.slice (some ⟨kb, off + i, none⟩) (b.length - i) (cap - i)) (b.drop i)) := fun W B => (HS.out W (HD.out.trans (B.mono HD.out.size))).cut (by omega) (fun _ => by rw [Option.map_some, addr_add])
                    have HM1 : Hid (([] : List UInt8).length + (b.take i).length ≤ 140737488355328) := by rw [Hid, List.length_take]; simp; omega
                    have HM2 : Hid (([] ++ b.take i : List UInt8).length + ([10] : List UInt8).length ≤ 140737488355328) := by rw [Hid, List.nil_append, List.length_take]; simp; omega
                    have HM3 : Hid (([] ++ b.take i ++ [10] : List UInt8).length + (b.drop i).length ≤ 140737488355328) := by rw [Hid, List.nil_append, List.length_append, List.length_take, List.length_drop]; simp; omega
                    have HQ : Hid (∀ (W : World) (v : Value), Below w.heap.size w W → Own wr.heap.size W v ([] ++ b.take i ++ [10] ++ b.drop i) → Calls Tryz.prog 9 #[v] W (ReqR W (rdNo 400))) := fun W v B O => by
                      have e : ([] ++ b.take i ++ [10] ++ b.drop i : List UInt8) = ins b i 10 := by unfold ins; rw [List.nil_append, List.append_assoc, List.singleton_append]
                      rw [e] at O
                      obtain ⟨ka, S, hka⟩ := O.src
                      obtain ⟨ax, cx, rfl, _⟩ := O.form
                      have q := hreq_any (ins b i 10) ka cx ax W S (fun z => (hka z).2) (HL.out.below B).max (by rw [ins_len]; omega)
                      rw [HBAR.out] at q
                      exact q
                    unfold ReqR rdV rdNo at HQ
                    simp only at HQ
                    clear HBAR
                    go_wp2_with fail
                    go_region_held3 (fun _ => True) (go_keep) (first | (have g7 := O7; clear g7; refine step_own rfl _ _ rfl rfl wr.heap.size _ ([] ++ b.take i ++ [10]) rfl O7 kb _ _ _ (b.drop i) rfl (HSD.out _ (by first | exact (((((Below.refl _ _).alloc (Nat.le_refl _) _).drew).trans B6).alloc (Nat.le_trans (by simp) B6.size) _).trans B7 | exact ((((((Below.refl _ _).alloc (Nat.le_refl _) _).alloc (by simp) _).drew).trans B6)).trans B7)) (fun e => by cases e) HM3.out (by have := ((by first | exact (((((Below.refl _ _).alloc (Nat.le_refl _) _).drew).trans B6).alloc (Nat.le_trans (by simp) B6.size) _).trans B7 | exact ((((((Below.refl _ _).alloc (Nat.le_refl _) _).alloc (by simp) _).drew).trans B6)).trans B7) : Below wr.heap.size wr w7).size; exact this) ?_; intro v8 w8 O8 B8) | (have g6 := O6; clear g6; refine step_own rfl _ _ rfl rfl wr.heap.size _ ([] ++ b.take i) rfl (by first | exact O6 | exact Own.keep O6 ((Below.refl _ _).alloc (Nat.le_refl _) _)) _ _ _ _ [10] rfl (by first | exact src_one (tblk_new _ _) rfl | exact src_one ((K6 _ (by simp <;> omega) (by simp <;> omega)).trans (bblk2 _ _ _)) rfl | exact src_one ((K6 _ (by simp <;> omega) (by simp <;> omega)).trans ((Below.heap_alloc _ _ _ (by simp <;> omega)).trans (tblk_new _ _))) rfl) (fun e => by cases e) HM2.out (by have := B6.size; (simp at this ⊢ <;> omega)) ?_; intro v7 w7 O7 B7) | (refine step_ownB rfl _ _ rfl rfl wr.heap.size _ [] rfl (own_b0 (by simp <;> omega) (by first | exact tblk_new _ _ | exact (Below.heap_alloc _ _ _ (by simp <;> omega)).trans (tblk_new _ _) | exact bblk2 _ _ _)) kb _ _ _ (b.take i) rfl (HST.out _ (by repeat (refine Below.drew ?_); first | exact U0.alloc U0.size _ | exact (U0.alloc U0.size _).alloc (by have := U0.size; simp <;> omega) _)) (fun e => by cases e) HM1.out (by simp <;> omega) _ rfl ?_; intro v6 w6 O6 B6 K6))
                    all_goals
                      have D7 : Below wr.heap.size wr w7 := (by first | exact (((((Below.refl _ _).alloc (Nat.le_refl _) _).drew).trans B6).alloc (Nat.le_trans (by simp) B6.size) _).trans B7 | exact ((((((Below.refl _ _).alloc (Nat.le_refl _) _).alloc (by simp) _).drew).trans B6)).trans B7)
                      have D8 := HD.out.trans ((D7.trans B8).mono HD.out.size)
                      have HO8 : Hid (Own wr.heap.size w8 v8 ([] ++ b.take i ++ [10] ++ b.drop i)) := O8
                      clear O6 O7 O8 B6 B7 B8 D7 K6
                      go_wp2_with fail
                      refine (HQ.out _ _ D8 HO8.out).mono ?_
                      rintro e w9 ⟨fa9, ba9, fc9, bc9, rfl, _, _, B9⟩
                      have D9 := D8.trans (B9.mono D8.size)
                      have D10 := D9.alloc D9.size (.cells #[.string ⟨#[]⟩, .string ⟨#[]⟩, .int .i64 0, .slice fa9 0 fc9, .slice ba9 0 bc9] 26)
                      clear D9 B9 HO8 D8
                      go_wp2
                      go_ret
                      exact ⟨rfl, D10⟩
                  · go_wp2
                    go_ret
                    exact ⟨rfl, HD.out⟩
              · cases h13 : ((b[i].toNat : Int) == 13)
                · have HBAR : Hid (reqQ (ins b i 13) = rdNo 400) := hB1.out i 13 (by omega) ⟨hil, n10, .inl ⟨rfl, fun q => by rw [q] at h13; exact absurd h13 (by decide)⟩⟩
                  have U0 : Below wr.heap.size wr wr := Below.refl _ _
                  have hic : (i : Int) ≤ (cap : Int) := by omega
                  have hib : (i : Int) ≤ (b.length : Int) := by omega
                  have hicn : i < cap := by omega
                  have hcne : ¬ cap = i := by omega
                  have hicm : i ≤ cap := by omega
                  have hibm : i ≤ b.length := by omega
                  have HST : Hid (∀ W, Below wr.heap.size wr W → Src W kb (.slice (some ⟨kb, off, none⟩) i cap) (b.take i)) := fun W B => (HS.out W (HD.out.trans (B.mono HD.out.size))).take (by omega)
                  have HSD : Hid (∀ W, Below wr.heap.size wr W → Src W kb (.slice (some ⟨kb, off + i, none⟩) (b.length - i) (cap - i)) (b.drop i)) := fun W B => (HS.out W (HD.out.trans (B.mono HD.out.size))).cut (by omega) (fun _ => by rw [Option.map_some, addr_add])
                  have HM1 : Hid (([] : List UInt8).length + (b.take i).length ≤ 140737488355328) := by rw [Hid, List.length_take]; simp; omega
                  have HM2 : Hid (([] ++ b.take i : List UInt8).length + ([13] : List UInt8).length ≤ 140737488355328) := by rw [Hid, List.nil_append, List.length_take]; simp; omega
                  have HM3 : Hid (([] ++ b.take i ++ [13] : List UInt8).length + (b.drop i).length ≤ 140737488355328) := by rw [Hid, List.nil_append, List.length_append, List.length_take, List.length_drop]; simp; omega
                  have HQ : Hid (∀ (W : World) (v : Value), Below w.heap.size w W → Own wr.heap.size W v ([] ++ b.take i ++ [13] ++ b.drop i) → Calls Tryz.prog 9 #[v] W (ReqR W (rdNo 400))) := fun W v B O => by
                    have e : ([] ++ b.take i ++ [13] ++ b.drop i : List UInt8) = ins b i 13 := by unfold ins; rw [List.nil_append, List.append_assoc, List.singleton_append]
                    rw [e] at O
                    obtain ⟨ka, S, hka⟩ := O.src
                    obtain ⟨ax, cx, rfl, _⟩ := O.form
                    have q := hreq_any (ins b i 13) ka cx ax W S (fun z => (hka z).2) (HL.out.below B).max (by rw [ins_len]; omega)
                    rw [HBAR.out] at q
                    exact q
                  unfold ReqR rdV rdNo at HQ
                  simp only at HQ
                  clear HBAR
                  go_wp2_with fail
                  go_region_held3 (fun _ => True) (go_keep) (first | (have g7 := O7; clear g7; refine step_own rfl _ _ rfl rfl wr.heap.size _ ([] ++ b.take i ++ [13]) rfl O7 kb _ _ _ (b.drop i) rfl (HSD.out _ (by first | exact (((((Below.refl _ _).alloc (Nat.le_refl _) _).drew).trans B6).alloc (Nat.le_trans (by simp) B6.size) _).trans B7 | exact ((((((Below.refl _ _).alloc (Nat.le_refl _) _).alloc (by simp) _).drew).trans B6)).trans B7)) (fun e => by cases e) HM3.out (by have := ((by first | exact (((((Below.refl _ _).alloc (Nat.le_refl _) _).drew).trans B6).alloc (Nat.le_trans (by simp) B6.size) _).trans B7 | exact ((((((Below.refl _ _).alloc (Nat.le_refl _) _).alloc (by simp) _).drew).trans B6)).trans B7) : Below wr.heap.size wr w7).size; exact this) ?_; intro v8 w8 O8 B8) | (have g6 := O6; clear g6; refine step_own rfl _ _ rfl rfl wr.heap.size _ ([] ++ b.take i) rfl (by first | exact O6 | exact Own.keep O6 ((Below.refl _ _).alloc (Nat.le_refl _) _)) _ _ _ _ [13] rfl (by first | exact src_one (tblk_new _ _) rfl | exact src_one ((K6 _ (by simp <;> omega) (by simp <;> omega)).trans (bblk2 _ _ _)) rfl | exact src_one ((K6 _ (by simp <;> omega) (by simp <;> omega)).trans ((Below.heap_alloc _ _ _ (by simp <;> omega)).trans (tblk_new _ _))) rfl) (fun e => by cases e) HM2.out (by have := B6.size; (simp at this ⊢ <;> omega)) ?_; intro v7 w7 O7 B7) | (refine step_ownB rfl _ _ rfl rfl wr.heap.size _ [] rfl (own_b0 (by simp <;> omega) (by first | exact tblk_new _ _ | exact (Below.heap_alloc _ _ _ (by simp <;> omega)).trans (tblk_new _ _) | exact bblk2 _ _ _)) kb _ _ _ (b.take i) rfl (HST.out _ (by repeat (refine Below.drew ?_); first | exact U0.alloc U0.size _ | exact (U0.alloc U0.size _).alloc (by have := U0.size; simp <;> omega) _)) (fun e => by cases e) HM1.out (by simp <;> omega) _ rfl ?_; intro v6 w6 O6 B6 K6))
                  all_goals
                    have D7 : Below wr.heap.size wr w7 := (by first | exact (((((Below.refl _ _).alloc (Nat.le_refl _) _).drew).trans B6).alloc (Nat.le_trans (by simp) B6.size) _).trans B7 | exact ((((((Below.refl _ _).alloc (Nat.le_refl _) _).alloc (by simp) _).drew).trans B6)).trans B7)
                    have D8 := HD.out.trans ((D7.trans B8).mono HD.out.size)
                    have HO8 : Hid (Own wr.heap.size w8 v8 ([] ++ b.take i ++ [13] ++ b.drop i)) := O8
                    clear O6 O7 O8 B6 B7 B8 D7 K6
                    go_wp2_with fail
                    refine (HQ.out _ _ D8 HO8.out).mono ?_
                    rintro e w9 ⟨fa9, ba9, fc9, bc9, rfl, _, _, B9⟩
                    have D9 := D8.trans (B9.mono D8.size)
                    have D10 := D9.alloc D9.size (.cells #[.string ⟨#[]⟩, .string ⟨#[]⟩, .int .i64 0, .slice fa9 0 fc9, .slice ba9 0 bc9] 26)
                    clear D9 B9 HO8 D8
                    go_wp2
                    go_ret
                    exact ⟨rfl, D10⟩
                · go_wp2
                  go_ret
                  exact ⟨rfl, HD.out⟩
            · go_wp2
              go_ret
              exact ⟨rfl, HD.out⟩
end Go.Proofs.YthbjdbookiejeaaGreatDoor

/- Whatever the bytes, the place and the sign, HttpBare answers true: a request into whose head a bare 10, or a 13 without one, is put is no request; no condition. -/
namespace Go.Proofs.YthbjdbookiejeaaGreatDoor.httpBare
open Go.ChangeShapes Go.WideShapes Go.ChangeAt Go.RowKit
open Go.ChangeMaps (open_string shut_string)
set_option linter.unusedVariables false

theorem own : ownKnob Tryz.prog.godebug = none := by kernel_rfl
theorem laidOut : laidOutB Tryz.prog = true := by kernel_rfl
theorem maxL_of {W : World} (hsh : W.ShapedOpen Tryz.prog) : MaxL W :=
  cell_of_shapedOpen_int (P := Tryz.prog) (g := 1) (t := 3) (zero := #[.int .i64 0]) hsh (of_decide_eq_true (by kernel_rfl)) (by kernel_rfl) rfl (by kernel_rfl) (by kernel_rfl) Tryz.underlying3
noncomputable def laidWorld (os : Os) : World := World.laidAll Tryz.prog os Rows.httpBareRow.laid
theorem laid_met (os : Os) : laidMetH Tryz.prog Rows.httpBareRow.laid ((laidWorld os).forCall (fun _ _ => 0) ⟨#[], #[.slice none 0 0, .int .i64 0, .bool false], []⟩).memory := by
  rw [MakeChecks.laidMetH_plain _ _ _ (by kernel_rfl)]
  exact laidMet_laidAll _ (by kernel_rfl) (by kernel_rfl)
set_option maxRecDepth 100000 in
theorem lifted (os : Os) (started : os.Started) (H : Type) (enc : TypeId × Value → H) (F : Stop.Interp) :
    ReturnsInHanded {} Tryz.checked os 7 .any ((OpenSpec.ofChange Rows.httpBareSpec).preRow enc Tryz.prog Tryz.f7 Rows.httpBareRow.domain false Rows.httpBareRow.laid) (((OpenSpec.ofChange Rows.httpBareSpec).at F).post enc Tryz.prog Tryz.f7 false true false false) := by
  obtain ⟨places, hx⟩ := (⟨[], by kernel_rfl⟩ : ∃ places, DataW.whole enc Tryz.prog ((laidWorld os).forCall (fun _ _ => 0) ⟨#[], #[.slice none 0 0, .int .i64 0, .bool false], []⟩).memory Tryz.f7.params.toList Rows.httpBareSpec.vars false (#[.slice none 0 0, .int .i64 0, .bool false] : Array Value).toList 8 = some ([.nil, .lit (.int .i64 0), .lit (.bool false)], [], places))
  refine returnsInHanded_of_row (C := Tryz.checked) (s := OpenSpec.ofChange Rows.httpBareSpec) own started (by kernel_rfl) Tryz.func7
    (witness_row_atRef (enc := enc) (C := Tryz.checked) false (laidWorld os) #[.slice none 0 0, .int .i64 0, .bool false] rfl (by kernel_rfl) (by kernel_rfl) (by kernel_rfl)
      (OpenSpec.preRow_of_cond 8 hx (by kernel_rfl) (fun k hk => by cases hk) (by kernel_rfl) (laid_met os))) ?_
  intro W base args ds gs before hval0 hW _ hcond hsz hlaid hsh _
  have hM := maxL_of hsh
  clear hsh
  have hval : ∀ (j : Nat) t v, Tryz.f7.params[j]? = some t → args[j]? = some v → Value.okWide Tryz.prog W .any base t v := hval0
  have hW' := hW
  obtain ⟨p, q, hA0, hV, rfl, hfz, hnd⟩ := hW
  have hA : DataW.TrodAll enc Tryz.prog W 0 (fun _ => true) true Tryz.f7.params.toList args.toList ds p := hA0
  rw [Tryz.params7] at hA hval
  obtain ⟨v0, vs0, d0, ds0, p0, q0, hargs, rfl, rfl, h0, r0⟩ := trodAll_cons hA
  obtain ⟨v1, vs1, d1, ds1, p1, q1, rfl, rfl, rfl, h1, r1⟩ := trodAll_cons r0
  obtain ⟨v2, vs2, d2, ds2, p2, q2, rfl, rfl, rfl, h2, r2⟩ := trodAll_cons r1
  obtain ⟨rfl, rfl, rfl⟩ := trodAll_nil r2
  obtain rfl : args = #[v0, v1, v2] := by cases args; simp_all
  obtain ⟨rfl, rfl⟩ := trodVars_none hV
  obtain ⟨a0, len0, cap0, rfl⟩ := okWide_slice Tryz.underlying22 (hval 0 22 v0 rfl rfl)
  have k0 := h0
  have lt0 : ∀ x ∈ p0, x.block < W.heap.size := by obtain ⟨m, hm⟩ := k0; exact DataW.trod_lt m _ _ _ hm
  obtain ⟨kb0, b0, w0, hk0, hn0⟩ := open_bytes h0
  obtain ⟨a1, rfl, rfl, rfl, w1⟩ := open_int Tryz.underlying3 (hval 1 3 v1 rfl rfl) h1
  obtain ⟨a2, rfl, rfl, rfl⟩ := open_bool Tryz.underlying4 (hval 2 4 v2 rfl rfl) h2
  clear hA0 hval0
  have hP := pow_of (l := Rows.httpBareRow.laid) (by kernel_rfl) hlaid
  refine (bare8_walk kb0 len0 cap0 a0 b0 a1 a2 W w0 hk0 ⟨hM, hP⟩).mono fun e W' ⟨he, bel⟩ => ?_
  subst he
  exact ⟨_, rfl, _, _, _, [], _, [], hW', trodAll_mk1 (shut_bool Tryz.underlying4 _), (trodAll_cons_mk (Below.trod laidOut (by kernel_rfl) (of_decide_eq_true (by kernel_rfl)) k0 bel lt0) (trodAll_cons_mk (shut_int Tryz.underlying3 w1) (trodAll_cons_mk (shut_bool Tryz.underlying4 a2) trodAll_mk0))), rfl, bel.frame _, fun h => by cases h⟩

theorem over : Rows.HttpBareSaid :=
  OpenClaim.holds_of_cond 7 Tryz.f7 rfl rfl rfl rfl rfl rfl rfl ⟨rfl, rfl, rfl, rfl, rfl⟩ rfl rfl rfl rfl rfl (by kernel_rfl) Tryz.func7 (by kernel_rfl)
    (of_decide_eq_true (by kernel_rfl)) (by unfold Func.isWrapper; first | (rw [if_pos (by decide +kernel)]; kernel_rfl) | (rw [if_neg (by decide +kernel)]; exact ⟨rfl, rfl⟩))
    (fun os started H enc _ F => by rw [OpenClaim.pre_eq_preRow]; exact lifted os started H enc F)

end Go.Proofs.YthbjdbookiejeaaGreatDoor.httpBare
namespace Go.Proofs.YthbjdbookiejeaaGreatDoor
/-- The statement: the tied card. -/
theorem httpBare_holds : Rows.HttpBareCardSaid :=
  Claim7.holds_tied_plain_at .later [] _ _ _ _
    httpBare.over (fun _ h => by cases h) (by kernel_rfl) (fun _ h => by cases h) httpBare_row_tie rfl ⟨rfl, rfl⟩ (by kernel_rfl) rfl
    (fun f fn hf hfn => by
      obtain rfl : f = 7 := Option.some.inj ((show Tryz.prog.funcNamed "tollbar/tollbarlaw08.HttpBare" = some 7 by kernel_rfl).symm.trans hf) |>.symm
      obtain rfl : fn = Tryz.f7 := (Option.some.inj (Tryz.func7.symm.trans hfn)).symm
      exact ⟨by kernel_rfl, fun j t ht => by
        rw [Tryz.params7] at ht
        have hm : t ∈ [22, 3, 4] := by simpa using Array.mem_of_getElem? ht
        have hall : ([22, 3, 4].all fun u => !Tryz.prog.wantsStandIn u) = true := by kernel_rfl
        exact (show Tryz.prog.wantsStandIn t = false by simpa using List.all_eq_true.1 hall t hm)⟩)
    (by kernel_rfl)
#print axioms httpBare_holds
end Go.Proofs.YthbjdbookiejeaaGreatDoor
