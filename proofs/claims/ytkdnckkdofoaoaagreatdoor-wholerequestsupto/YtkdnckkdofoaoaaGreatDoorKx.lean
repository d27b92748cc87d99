/- Texts that the proof leans on, one behind the other: FrH FgP DcA HpA -/
import Derived.Test.YtkdnckkdofoaoaaGreatDoorKd
import Derived.Test.YtkdnckkdofoaoaaGreatDoorKn
import Derived.Test.YtkdnckkdofoaoaaGreatDoorKb
import Derived.Lib.SmallJoins
import Derived.Test.YtkdnckkdofoaoaaGreatDoorKp
import Derived.Test.YtkdnckkdofoaoaaGreatDoorKo
import Derived.Test.YtkdnckkdofoaoaaGreatDoorKu
import Derived.Test.YtkdnckkdofoaoaaGreatDoorKh
/- Digits, and lists of them: what is read of them. -/
namespace Go.Proofs.YtkdnckkdofoaoaaGreatDoor
open Go.RowKit
set_option linter.unusedVariables false

theorem fold_add (X : List UInt8) : ∀ a c u : Nat, X.foldl (stepV 10) (some a) = some u → X.foldl (stepV 10) (some (a + c)) = some (u + c * 10 ^ X.length) := by
  induction X with
  | nil =>
    intro a c u h
    have : a = u := by simpa using h
    subst this
    simp
  | cons b l ih =>
    intro a c u h
    rw [List.foldl_cons] at h ⊢
    by_cases hb : dgN b < 10
    · have e1 : stepV 10 (some a) b = some (a * 10 + dgN b) := by unfold stepV; simp [hb]
      have e2 : stepV 10 (some (a + c)) b = some ((a * 10 + dgN b) + c * 10) := by
        unfold stepV; simp [hb]; omega
      rw [e1] at h
      rw [e2, ih _ _ _ h, List.length_cons, Nat.pow_succ, Nat.mul_comm (10 ^ l.length) 10, Nat.mul_assoc]
    · have e1 : stepV 10 (some a) b = none := by unfold stepV; simp [hb]
      rw [e1, fold_none] at h
      cases h
theorem vN_cons (d : UInt8) (X : List UInt8) (v : Nat) (h : vN 10 X = some v) (hd : dgN d < 10) : vN 10 (d :: X) = some (v + dgN d * 10 ^ X.length) := by
  have e : vN 10 (d :: X) = X.foldl (stepV 10) (stepV 10 (some 0) d) := rfl
  have e1 : stepV 10 (some 0) d = some (0 + dgN d) := by unfold stepV; simp [hd]
  rw [e, e1]
  exact fold_add X 0 (dgN d) v h
theorem dgN_ofNat (k : Nat) (h : k < 10) : dgN (UInt8.ofNat (48 + k)) = k ∧ (UInt8.ofNat (48 + k)).toNat = 48 + k := by
  have e : (UInt8.ofNat (48 + k)).toNat = 48 + k := by simp; omega
  refine ⟨?_, e⟩
  unfold dgN dgI
  rw [e, if_pos (by omega)]
  omega

/-- The digits X tell n. -/
structure Dgs (X : List UInt8) (n : Nat) : Prop where
  ne : 0 < X.length
  len : X.length ≤ 18
  dig : ∀ b ∈ X, 48 ≤ b.toNat ∧ b.toNat ≤ 57
  val : vN 10 X = some n
theorem Dgs.num {X : List UInt8} {n : Nat} (h : Dgs X n) : numI 10 18 ⟨X.toArray⟩ = n ∧ numB 10 18 ⟨X.toArray⟩ = true := by
  refine num_ok ?_ h.val
  have e : (⟨X.toArray⟩ : ByteArray).size = X.length := rfl
  rw [e]
  have := h.ne
  have := h.len
  omega
theorem Dgs.nought {X : List UInt8} {n : Nat} (h : Dgs X n) (hl : X.length ≤ 17) : Dgs (48 :: X) n := by
  refine ⟨by simp, by simp; omega, ?_, ?_⟩
  · intro b hb
    rcases List.mem_cons.1 hb with rfl | hb
    · decide
    · exact h.dig b hb
  · have k := vN_cons 48 X n h.val (by decide)
    rw [k]
    have : dgN 48 = 0 := by decide
    rw [this]; simp
theorem Dgs.blk {X : List UInt8} {n : Nat} (h : Dgs X n) : ∀ b ∈ X, blk b = false ∧ b ≠ 44 := by
  intro b hb
  have k := h.dig b hb
  constructor
  · unfold Go.Proofs.YtkdnckkdofoaoaaGreatDoor.blk
    have e1 : b ≠ 32 := by rintro rfl; revert k; decide
    have e2 : b ≠ 9 := by rintro rfl; revert k; decide
    simp [e1, e2]
  · rintro rfl; revert k; decide
theorem Dgs.nf {X : List UInt8} {n : Nat} (h : Dgs X n) : NF X := fun b hb => (h.blk b (List.mem_of_mem_head? hb)).1
theorem Dgs.nl {X : List UInt8} {n : Nat} (h : Dgs X n) : NL X := fun b hb => (h.blk b (List.mem_of_getLast? hb)).1
theorem trim_self {X : List UInt8} (h1 : NF X) (h2 : NL X) : trimP X = X := by
  have k := trim_around [] X [] (fun b hb => by cases hb) (fun b hb => by cases hb) h1 h2
  simpa using k
theorem trim_none {q : List UInt8} (hq : ∀ b ∈ q, blk b = true) : trimP q = [] := by
  have k := trim_around q [] [] hq (fun b hb => by cases hb) (fun b hb => by simp at hb) (fun b hb => by simp at hb)
  simpa using k
theorem cuts_app : ∀ (x l acc : List UInt8), (∀ b ∈ x, b ≠ 44) → cuts acc (x ++ l) = cuts (acc ++ x) l
  | [], l, acc, _ => by simp
  | b :: x, l, acc, h => by
    rw [List.cons_append, cuts, if_neg (h b (.head _)), cuts_app x l _ (fun c hc => h c (.tail _ hc))]
    simp
def keepL (ps : List (List UInt8)) : List (List UInt8) := (ps.map trimP).filter fun p => !decide (p.length = 0)
theorem keepL_cons (p : List UInt8) (ps : List (List UInt8)) : keepL (p :: ps) = (if (trimP p).length = 0 then [] else [trimP p]) ++ keepL ps := by
  unfold keepL
  rw [List.map_cons, List.filter_cons]
  by_cases h : (trimP p).length = 0
  · rw [if_pos h, decide_eq_true h]; rfl
  · rw [if_neg h, decide_eq_false h]; rfl
theorem keepT_data : ∀ ps : List ByteArray, (keepT ps).map (·.data.toList) = keepL (ps.map (·.data.toList))
  | [] => rfl
  | p :: ps => by
    have e : keepT (p :: ps) = (if (trimT p).size = 0 then [] else [trimT p]) ++ keepT ps := by
      unfold keepT
      rw [List.map_cons, List.filter_cons]
      by_cases h : (trimT p).size = 0
      · rw [if_pos h, decide_eq_true h]; rfl
      · rw [if_neg h, decide_eq_false h]; rfl
    rw [e, List.map_append, keepT_data ps, List.map_cons, keepL_cons]
    congr 1
    have ez : (trimT p).size = (trimP p.data.toList).length := rfl
    rw [ez]
    split
    · rfl
    · rfl
theorem splT_data (s : ByteArray) : (splT s).map (·.data.toList) = keepL (cuts [] s.data.toList) := by
  unfold splT
  rw [keepT_data, pieces_cuts]
theorem spl_eq {s : ByteArray} {xs : List ByteArray} (h : keepL (cuts [] s.data.toList) = xs.map (·.data.toList)) : splT s = xs := map_data_inj (by rw [splT_data, h])
theorem Dgs.spl {X : List UInt8} {n : Nat} (h : Dgs X n) : splT ⟨X.toArray⟩ = [⟨X.toArray⟩] := by
  refine spl_eq ?_
  have e : (⟨X.toArray⟩ : ByteArray).data.toList = X := rfl
  have e2 : cuts [] X = [X] := by
    have k := cuts_app X [] [] (fun b hb => (h.blk b hb).2)
    rw [List.append_nil, List.nil_append] at k
    rw [k]; rfl
  rw [e, e2, keepL_cons, trim_self h.nf h.nl, if_neg (by have := h.ne; omega)]
  rfl
/-- " , " and the word, k times. -/
def repW (w : List UInt8) : Nat → List UInt8
  | 0 => []
  | k + 1 => repW w k ++ ([32, 44, 32] ++ w)
theorem repW_front (w : List UInt8) : ∀ k, repW w (k + 1) = ([32, 44, 32] ++ w) ++ repW w k
  | 0 => by simp [repW]
  | k + 1 => by
    have e1 : repW w (k + 1 + 1) = repW w (k + 1) ++ ([32, 44, 32] ++ w) := rfl
    have e2 : repW w (k + 1) = repW w k ++ ([32, 44, 32] ++ w) := rfl
    rw [e1, repW_front w k, List.append_assoc, ← e2, repW_front w k]
theorem repW_len (w : List UInt8) : ∀ k, (repW w k).length = k * (w.length + 3)
  | 0 => by simp [repW]
  | k + 1 => by rw [repW, List.length_append, repW_len w k, Nat.add_mul]; simp
theorem keep_rep {X : List UInt8} {n : Nat} (h : Dgs X n) : ∀ k, keepL (cuts [] (repW X k)) = List.replicate k X ∧ keepL (cuts (32 :: X) (repW X k)) = List.replicate (k + 1) X
  | 0 => by
    refine ⟨rfl, ?_⟩
    have e : trimP (32 :: X) = X := by
      have k := trim_around [32] X [] (fun b hb => by rw [List.mem_singleton.1 hb]; decide) (fun b hb => by cases hb) h.nf h.nl
      simpa using k
    show keepL [32 :: X] = _
    rw [keepL_cons, e, if_neg (by have := h.ne; omega)]
    rfl
  | k + 1 => by
    have ih := (keep_rep h k).2
    have st : ∀ acc : List UInt8, cuts acc (repW X (k + 1)) = (acc ++ [32]) :: cuts (32 :: X) (repW X k) := fun acc => by
      rw [repW_front]
      show cuts acc (32 :: 44 :: 32 :: (X ++ repW X k)) = _
      rw [cuts, if_neg (by decide), cuts, if_pos rfl, cuts, if_neg (by decide), cuts_app X _ _ (fun b hb => (h.blk b hb).2)]
      rfl
    refine ⟨?_, ?_⟩
    · rw [st, keepL_cons, trim_none (fun b hb => by simp at hb; rw [hb]; decide), if_pos List.length_nil, ih]
      rfl
    · have e : trimP (32 :: X ++ [32]) = X := by
        have k := trim_around [32] X [32] (fun b hb => by rw [List.mem_singleton.1 hb]; decide) (fun b hb => by rw [List.mem_singleton.1 hb]; decide) h.nf h.nl
        simpa using k
      rw [st, keepL_cons, e, if_neg (by have := h.ne; omega), ih]
      rfl
theorem spl_rep {X : List UInt8} {n : Nat} (h : Dgs X n) (k : Nat) : splT ⟨(repW X k).toArray⟩ = List.replicate k ⟨X.toArray⟩ := by
  refine spl_eq ?_
  have e : (⟨(repW X k).toArray⟩ : ByteArray).data.toList = repW X k := rfl
  rw [e, (keep_rep h k).1, List.map_replicate]
theorem sameN_rep {X : List UInt8} {n : Nat} (h : Dgs X n) : ∀ k, sameN (n : Int) (List.replicate k ⟨X.toArray⟩) = true := by
  intro k
  unfold sameN
  rw [List.all_eq_true]
  intro x hx
  rw [(List.mem_replicate.1 hx).2, h.num.1, h.num.2]
  simp
theorem lenL_rep {X : List UInt8} {n : Nat} (h : Dgs X n) (k : Nat) : lenL (List.replicate (k + 1) ⟨X.toArray⟩) = ((n : Int), true) := by
  rw [List.replicate_succ]
  unfold lenL
  simp only [h.num.1, h.num.2, sameN_rep h k, Bool.and_self, if_true]
end Go.Proofs.YtkdnckkdofoaoaaGreatDoor

/- Names that are the same; what is left without some names. -/
namespace Go.Proofs.YtkdnckkdofoaoaaGreatDoor
open Go.RowKit
set_option linter.unusedVariables false

theorem smT_symm (a b : ByteArray) : smT a b = smT b a := by unfold smT; exact BEq.comm
theorem smT_trans {a b c : ByteArray} (h : smT a b = true) (k : smT b c = true) : smT a c = true := by
  unfold smT at *
  rw [beq_iff_eq] at *
  exact h.trans k
theorem anyT_app (xs ys : List ByteArray) (s : ByteArray) : anyT (xs ++ ys) s = (anyT xs s || anyT ys s) := by unfold anyT; rw [List.any_append]
theorem anyT_one (x s : ByteArray) : anyT [x] s = smT x s := by unfold anyT; simp
theorem anyT_mem {xs : List ByteArray} {x s : ByteArray} (h : x ∈ xs) (k : smT x s = true) : anyT xs s = true := by
  unfold anyT
  rw [List.any_eq_true]
  exact ⟨x, h, k⟩
theorem anyT_trans {xs : List ByteArray} {n s : ByteArray} (h : anyT xs n = true) (k : smT n s = true) : anyT xs s = true := by
  unfold anyT at h
  obtain ⟨x, hx, q⟩ := List.any_eq_true.1 h
  exact anyT_mem hx (smT_trans q k)
theorem get_left (fs : Fs) (ns : List ByteArray) (n : ByteArray) (h : n ∈ ns) : getF (withoutF fs ns) n = [] := by
  unfold getF
  rw [List.map_eq_nil_iff, List.filter_eq_nil_iff]
  intro f hf q
  have k := (List.mem_filter.1 hf).2
  rw [anyT_mem h (by rw [smT_symm]; exact q)] at k
  cases k
theorem has_left (fs : Fs) (ns : List ByteArray) (n p : ByteArray) (h : n ∈ ns) : hasF (withoutF fs ns) n p = false := by
  unfold hasF listF
  rw [get_left fs ns n h]; rfl
end Go.Proofs.YtkdnckkdofoaoaaGreatDoor

/- The reference's Decimal: a number in decimal digits. -/
namespace Go.Proofs.YtkdnckkdofoaoaaGreatDoor
open Go.RowKit
set_option linter.unusedVariables false

def dD (d : Nat) : UInt8 := UInt8.ofNat (48 + d)
def decGo : Nat → Nat → List UInt8 → List UInt8
  | 0, _, acc => acc
  | f + 1, u, acc => if u < 10 then dD u :: acc else decGo f (u / 10) (dD (u % 10) :: acc)
def decT (n : Nat) : List UInt8 := decGo 20 n []
theorem decGo_step (f u : Nat) (acc : List UInt8) (h : ¬ u < 10) : decGo (f + 1) u acc = decGo f (u / 10) (dD (u % 10) :: acc) := by rw [decGo, if_neg h]
theorem decGo_end (f u : Nat) (acc : List UInt8) (h : u < 10) : decGo (f + 1) u acc = dD u :: acc := by rw [decGo, if_pos h]
def JD (n u : Nat) (acc : List UInt8) : Prop := (acc = [] ∧ u = n) ∨ (acc ≠ [] ∧ ((u = 0 ∧ acc = decT n) ∨ (0 < u ∧ ∃ f, u < 10 ^ (f + 1) ∧ decGo (f + 1) u acc = decT n)))
theorem JD_step {n u : Nat} {acc : List UInt8} (hn : n < 10 ^ 20) (h : JD n u acc) (c : acc = [] ∨ 0 < u) : JD n (u / 10) (dD (u % 10) :: acc) := by
  refine .inr ⟨by simp, ?_⟩
  have key : ∃ f, u < 10 ^ (f + 1) ∧ decGo (f + 1) u acc = decT n := by
    rcases h with ⟨rfl, rfl⟩ | ⟨h1, h2⟩
    · exact ⟨19, hn, rfl⟩
    · rcases h2 with ⟨h2, _⟩ | ⟨_, h2⟩
      · rcases c with c | c
        · exact absurd c h1
        · omega
      · exact h2
  obtain ⟨f, hf, hg⟩ := key
  by_cases k : u < 10
  · left
    rw [decGo_end _ _ _ k] at hg
    exact ⟨by omega, by rw [Nat.mod_eq_of_lt k]; exact hg⟩
  · right
    rw [decGo_step _ _ _ k] at hg
    cases f with
    | zero => simp at hf; omega
    | succ f => exact ⟨by omega, f, by rw [Nat.pow_succ, Nat.mul_comm] at hf; exact Nat.div_lt_of_lt_mul hf, hg⟩
theorem JD_end {n : Nat} {acc : List UInt8} (h : JD n 0 acc) (c : acc ≠ []) : acc = decT n := by
  rcases h with ⟨h1, _⟩ | ⟨_, ⟨_, h2⟩ | ⟨h2, _⟩⟩
  · exact absurd h1 c
  · exact h2
  · omega
theorem dret_s {a b : ByteArray} (h : a = b) : Ending.returned (.string a) = .returned (.string b) := by rw [h]
theorem dbytes_ext {a : ByteArray} {l : List UInt8} (h : a.data.toList = l) : a = ⟨l.toArray⟩ := by
  obtain ⟨⟨l'⟩⟩ := a
  simp at h
  rw [h]
theorem dcons_data (b : UInt8) (o : ByteArray) : ((⟨#[b]⟩ : ByteArray) ++ o).data.toList = b :: o.data.toList := by
  rw [Joins.data_append]; rfl
theorem dconv1 (W : World) (x : Int) (b : UInt8) (h : (b.toNat : Int) = x) : (convert 22 9 (.slice (some ⟨W.heap.size, 0, none⟩) 1 1)).run Tryz.prog (W.alloc (.cells #[.int .u8 x] 5)) = .ok (.string ⟨#[b]⟩) (W.alloc (.cells #[.int .u8 x] 5)) := by
  have k := run_convert_bytes_back (P := Tryz.prog) (W.alloc (.cells #[.int .u8 x] 5)) 22 9 5 ⟨W.heap.size, 0, none⟩ 1 [b] Tryz.underlying22 Tryz.underlying5 Tryz.underlying9 (fun j hj => by
    obtain rfl : j = 0 := by simpa using hj
    rw [addr_add]
    exact ring_cell (new_at _ _) (by simp [h]))
  exact k
def dmsr (vn vo : Value) : Nat := (intOf vn).toNat + (match vo with | .string o => if o.size = 0 then 1 else 0 | _ => 0)
theorem dmsr_lt {u u' : Nat} {o o' : ByteArray} (h : o.size = 0 ∨ 0 < u) (hu : u' ≤ u) (hd : 0 < u → u' < u) (ho : ¬ o'.size = 0) : dmsr (.int .i64 u') (.string o') < dmsr (.int .i64 u) (.string o) := by
  unfold dmsr intOf
  simp only [Int.toNat_natCast]
  rw [if_neg ho]
  rcases h with h | h
  · rw [if_pos h]; omega
  · have := hd h; split <;> omega
theorem dcons_size (b : UInt8) (o : ByteArray) : ¬ ((⟨#[b]⟩ : ByteArray) ++ o).size = 0 := by
  have h : ((⟨#[b]⟩ : ByteArray) ++ o).data.toList.length ≠ 0 := by rw [dcons_data]; simp
  exact h
theorem dwrap64_in (x : Int) (h0 : 0 ≤ x) (h1 : x < 9223372036854775808) : wrap64 x = x := by unfold wrap64; omega
theorem dcons_sizea (b : UInt8) (o : ByteArray) : ((⟨#[b]⟩ : ByteArray) ++ o).size = o.size + 1 := by
  have h : ((⟨#[b]⟩ : ByteArray) ++ o).data.toList.length = o.data.toList.length + 1 := by rw [dcons_data]; simp
  exact h
theorem dD_lo (d : Nat) (h : d ≤ 9) : ((dD d).toNat : Int) = 48 + d := by
  have h10 : d = 0 ∨ d = 1 ∨ d = 2 ∨ d = 3 ∨ d = 4 ∨ d = 5 ∨ d = 6 ∨ d = 7 ∨ d = 8 ∨ d = 9 := by omega
  rcases h10 with rfl | rfl | rfl | rfl | rfl | rfl | rfl | rfl | rfl | rfl <;> decide

set_option maxRecDepth 100000 in
set_option maxHeartbeats 4000000 in
theorem rdec_nat (n : Nat) (hn : n < 9223372036854775808) (w : World) :
    Calls Tryz.prog 23 #[.int .i64 n] w fun e w' => e = .returned (.string ⟨(decT n).toArray⟩) ∧ Below w.heap.size w w' := by
  have h0 : ¬ (n : Int) < 0 := by omega
  go_enter Tryz.func23, Tryz.ntmps23
  go_wp2_with fail
  clear h0
  go_loopw [0, 3] (fun vn vo wr => ∃ (u f : Nat) (o : ByteArray), vn = .int .i64 u ∧ vo = .string o ∧ u < 9223372036854775808 ∧ f + o.size ≤ 20 ∧ Hid (u < 10 ^ f) ∧ Hid (JD n u o.data.toList) ∧ Below w.heap.size w wr) (fun vn vo _ => dmsr vn vo)
  case atStart => exact ⟨n, 19, ⟨#[]⟩, rfl, rfl, hn, by decide, Nat.lt_of_lt_of_le hn (by decide), .inl ⟨rfl, rfl⟩, Below.refl _ _⟩
  case round =>
    obtain ⟨u, f, o, rfl, rfl, hu, hfo, hf, hj, hB⟩ := hrel
    have HU : Hid (u < 9223372036854775808) := hu
    clear hu
    have ho : (o.size : Int) ≤ 20 := by omega
    have HN : Hid (n < 9223372036854775808) := hn
    clear hn
    obtain ⟨b, hb1, hb2⟩ : ∃ b : UInt8, (b.toNat : Int) = 48 + (u : Int) % 10 ∧ b = dD (u % 10) := ⟨_, dD_lo (u % 10) (by omega) |>.trans (by omega), rfl⟩
    by_cases hz : o.size = 0
    · have hcv := dconv1 wr (48 + (u : Int) % 10) b hb1
      have hcat := fun W : World => run_string_add (P := Tryz.prog) (w := W) ⟨#[b]⟩ o (show ((1 : Nat) : Int) ≤ 8388608 by decide) (by omega)
      have HS : Hid (JD n (u / 10) ((⟨#[b]⟩ : ByteArray) ++ o).data.toList) := by
        rw [Hid, dcons_data, hb2]; exact JD_step (Nat.lt_of_lt_of_le HN.out (by decide)) hj.out (.inl (List.eq_nil_of_length_eq_zero hz))
      have HF : Hid (∃ f', f' + ((⟨#[b]⟩ : ByteArray) ++ o).size ≤ 20 ∧ u / 10 < 10 ^ f') := by
        rw [Hid, dcons_sizea]
        have h := hf.out
        cases f with
        | zero => exact ⟨0, by omega, by have : u < 1 := h; omega⟩
        | succ f' => exact ⟨f', by omega, by rw [Nat.pow_succ, Nat.mul_comm] at h; exact Nat.div_lt_of_lt_mul h⟩
      have HM : Hid (dmsr (.int .i64 ((u / 10 : Nat) : Int)) (.string ((⟨#[b]⟩ : ByteArray) ++ o)) < dmsr (.int .i64 (u : Int)) (.string o)) := dmsr_lt (.inl hz) (by omega) (fun h => by omega) (dcons_size _ _)
      clear hb1 hb2
      have he := empty_of hz
      subst he
      go_wp2
      go_roundw
      case rel => obtain ⟨f', q1, q2⟩ := HF.out; have hu := HU.out; exact ⟨u / 10, f', _, by rw [dwrap64_in _ (by omega) (by omega)]; go_num, rfl, by omega, q1, q2, HS, hB.alloc hB.size _⟩
      case measure => have hu := HU.out; rw [dwrap64_in _ (by omega) (by omega)]; exact HM.out
    · by_cases hpos : (0 : Int) < (u : Int)
      · have hcv := dconv1 wr (48 + (u : Int) % 10) b hb1
        have hcat := fun W : World => run_string_add (P := Tryz.prog) (w := W) ⟨#[b]⟩ o (show ((1 : Nat) : Int) ≤ 8388608 by decide) (by omega)
        have HS : Hid (JD n (u / 10) ((⟨#[b]⟩ : ByteArray) ++ o).data.toList) := by
          rw [Hid, dcons_data, hb2]; exact JD_step (Nat.lt_of_lt_of_le HN.out (by decide)) hj.out (.inr (by omega))
        have HF : Hid (∃ f', f' + ((⟨#[b]⟩ : ByteArray) ++ o).size ≤ 20 ∧ u / 10 < 10 ^ f') := by
          rw [Hid, dcons_sizea]
          have h := hf.out
          cases f with
          | zero => exact ⟨0, by have : u < 1 := h; omega, by have : u < 1 := h; omega⟩
          | succ f' => exact ⟨f', by omega, by rw [Nat.pow_succ, Nat.mul_comm] at h; exact Nat.div_lt_of_lt_mul h⟩
        have HM : Hid (dmsr (.int .i64 ((u / 10 : Nat) : Int)) (.string ((⟨#[b]⟩ : ByteArray) ++ o)) < dmsr (.int .i64 (u : Int)) (.string o)) := dmsr_lt (.inr (by omega)) (by omega) (fun h => by omega) (dcons_size _ _)
        clear hb1 hb2
        have hne2 := isEmpty_of hz
        clear hz
        go_wp2
        go_roundw
        case rel => obtain ⟨f', q1, q2⟩ := HF.out; have hu := HU.out; exact ⟨u / 10, f', _, by rw [dwrap64_in _ (by omega) (by omega)]; go_num, rfl, by omega, q1, q2, HS, hB.alloc hB.size _⟩
        case measure => have hu := HU.out; rw [dwrap64_in _ (by omega) (by omega)]; exact HM.out
      · have hu0 : u = 0 := by omega
        have HE : Hid (o = ⟨(decT n).toArray⟩) := by
          have h := hj.out
          rw [hu0] at h
          exact dbytes_ext (JD_end h (fun e => hz (congrArg List.length e)))
        have hne2 := isEmpty_of hz
        clear hz hb1 hb2
        go_wp2
        go_ret
        exact ⟨dret_s HE.out, hB⟩

end Go.Proofs.YtkdnckkdofoaoaaGreatDoor

/- What is read of a request is right, and what is right is read: plain. -/
namespace Go.Proofs.YtkdnckkdofoaoaaGreatDoor
open Go.RowKit
set_option linter.unusedVariables false

theorem cut_plain (m : Nat) : ∀ (l : List UInt8) (i k : Nat) (e : Int), cutAt m i l = (some k, e) → i ≤ k ∧ plain (l.take (k - i)) = true
  | [], i, k, e, h => by simp [cutAt] at h
  | c :: l, i, k, e, h => by
    rw [cutAt] at h
    by_cases h1 : c = 10
    · rw [if_pos h1] at h; simp at h
    · rw [if_neg h1] at h
      by_cases h2 : c = 13
      · rw [if_pos h2] at h
        by_cases h3 : l.head? = none
        · rw [if_pos h3] at h; simp at h
        · rw [if_neg h3] at h
          by_cases h4 : l.head? = some 10
          · rw [if_pos h4] at h
            have h5 : i = k ∧ 0 = e := by simpa using h
            obtain ⟨rfl, _⟩ := h5
            exact ⟨Nat.le_refl _, by rw [Nat.sub_self]; rfl⟩
          · rw [if_neg h4] at h; simp at h
      · rw [if_neg h2] at h
        by_cases h3 : m ≤ i
        · rw [if_pos h3] at h; simp at h
        · rw [if_neg h3] at h
          obtain ⟨q1, q2⟩ := cut_plain m l (i + 1) k e h
          refine ⟨by omega, ?_⟩
          obtain ⟨j, rfl⟩ : ∃ j, k = i + 1 + j := ⟨k - (i + 1), by omega⟩
          rw [show i + 1 + j - (i + 1) = j by omega] at q2
          rw [show i + 1 + j - i = j + 1 by omega, List.take_succ_cons]
          unfold plain at *
          rw [List.all_cons, q2]
          simp [h1, h2]
theorem prs_okF {s : ByteArray} (h : (prs s).2.2 = 0) : okF (prs s).1 (prs s).2.1 = true := by
  unfold prs at h ⊢
  split at h
  · rename_i k
    rw [if_pos k]
    exact (Bool.and_eq_true_iff.1 k).2
  · cases h
def OkFs (fs : Fs) : Prop := ∀ f ∈ fs, okF f.1 f.2 = true
theorem okFs_plus {f : ByteArray × ByteArray} {i : Nat} {R : Fs × Nat × Int} (h : OkFs R.1) (hf : okF f.1 f.2 = true) : OkFs (plusH [f] i R).1 := by
  unfold plusH
  split
  · intro g hg; cases hg
  · intro g hg
    rcases List.mem_append.1 hg with k | k
    · rw [List.mem_singleton.1 k]; exact hf
    · exact h g k
theorem fldL_okF (full : Bool) : ∀ (r : Nat) (l : List UInt8), OkFs (fldL full r l).1 := by
  intro r
  induction r with
  | zero =>
    intro l
    rcases cut_cases 2048 l with ⟨i, hc, hl, _⟩ | ⟨e, hc⟩
    · by_cases hi : i = 0
      · subst hi; rw [fldL_end hc]; intro f hf; cases hf
      · cases hf : fldOk (l.take i)
        · rw [fldL_bad hc hi hf]; intro f hf; cases hf
        · rw [fldL_many hc hi hf]; intro f hf; cases hf
    · rw [fldL_miss hc]; intro f hf; cases hf
  | succ r ih =>
    intro l
    rcases cut_cases 2048 l with ⟨i, hc, hl, _⟩ | ⟨e, hc⟩
    · by_cases hi : i = 0
      · subst hi; rw [fldL_end hc]; intro f hf; cases hf
      · cases hf : fldOk (l.take i)
        · rw [fldL_bad hc hi hf]; intro f hf; cases hf
        · rw [fldL_next hc hi hf]
          refine okFs_plus (ih _) ?_
          unfold fldOk at hf
          exact prs_okF (of_decide_eq_true hf)
    · rw [fldL_miss hc]; intro f hf; cases hf
theorem decL_bd : ∀ (f m : Nat) (l : List UInt8), (decL f m l).1.length ≤ m := by
  intro f
  induction f with
  | zero => intro m l; exact Nat.zero_le _
  | succ f ih =>
    intro m l
    unfold decL
    rcases oneP_cases m l with ⟨e, h⟩ | ⟨i, h, _⟩ | ⟨i, k, h, h0, hk, hl, _⟩
    · rw [h, if_pos rfl]; exact Nat.zero_le _
    · rw [h, if_neg (by simp only; omega), if_pos rfl]
      unfold plusD
      split <;> exact Nat.zero_le _
    · rw [h, if_neg (by simp only; omega), if_neg (by simp only; omega)]
      simp only
      have q := ih (m - k) (l.drop (i + 2 + k + 2))
      unfold plusD
      split
      · exact Nat.zero_le _
      · simp only [List.length_append, List.length_take]; omega
theorem bodyQ_bd (b : List UInt8) (n : Nat) (size : Int) (coded : Bool) (hs : size ≤ 4096) : (bodyQ b n size coded).1.length ≤ 4096 := by
  unfold bodyQ
  split
  · split
    · exact Nat.zero_le _
    · exact decL_bd _ _ _
  · split
    · exact Nat.zero_le _
    · simp only [List.length_take]; omega

/-- What holds of a request that was read. -/
structure RdOk (r : Rd) (f : List UInt8) : Prop where
  pl : plain f = true
  le : f.length ≤ 2046
  st : rqSt (tx f) = 0
  m : r.m = (rqP (tx f)).method
  t : r.t = (rqP (tx f)).target
  mi : r.minor = (rqP (tx f)).minor
  ok : OkFs r.fs
  ho : hostsOk (getF r.fs tHost) r.minor = true
  bd : r.body.length ≤ 4096
  code : r.st = 0
theorem reqQ_read (b : List UInt8) (h : ¬ (reqQ b).n = 0) : ∃ f, RdOk (reqQ b) f := by
  unfold reqQ at h ⊢
  by_cases h0 : (headQ b).n = 0
  · rw [if_pos h0] at h; exact absurd rfl h
  · rw [if_neg h0] at h ⊢
    have hx : ¬ (bodyOf (headQ b) b).2.1 = 0 := by
      intro k
      unfold rdOf at h
      rw [if_pos k] at h
      exact h rfl
    have e1 : rdOf (headQ b) (bodyOf (headQ b) b) = ⟨(headQ b).m, (headQ b).t, (headQ b).minor, (headQ b).fs, (bodyOf (headQ b) b).1, (bodyOf (headQ b) b).2.1, 0⟩ := by
      unfold rdOf; rw [if_neg hx]
    rw [e1]
    have hbd : (bodyOf (headQ b) b).1.length ≤ 4096 := bodyQ_bd _ _ _ _ (told_nn _ _).2
    generalize bodyOf (headQ b) b = X at *
    clear h e1 hx
    unfold headQ at h0 ⊢
    by_cases h1 : (headL rqSt b).2.1 = 0
    · rw [if_pos h1] at h0; exact absurd rfl h0
    · rw [if_neg h1] at h0 ⊢
      by_cases h2 : headSt (headL rqSt b).1 (rqP (firstL b)).minor = 0
      · rw [if_pos h2]
        rcases cut_cases 2048 (b.take 2048) with ⟨i, hc, hl, _⟩ | ⟨e, hc⟩
        · have hlt : (b.take 2048).length ≤ 2048 := by rw [List.length_take]; omega
          by_cases hs : rqSt (tx ((b.take 2048).take i)) = 0
          · have hok : OkFs (headL rqSt b).1 := by
              rw [headL_hit hc hs]
              unfold plusH
              split
              · intro f hf; cases hf
              · exact fldL_okF _ _ _
            have hh : hostsOk (getF (headL rqSt b).1 tHost) (rqP (firstL b)).minor = true := by
              unfold headSt at h2
              by_cases k : hostsOk (getF (headL rqSt b).1 tHost) (rqP (firstL b)).minor = true
              · exact k
              · rw [if_neg k] at h2; cases h2
            rw [firstL_hit hc] at hh ⊢
            have hp := (cut_plain 2048 _ 0 i 0 hc).2
            rw [Nat.sub_zero] at hp
            exact ⟨(b.take 2048).take i, hp, by rw [List.length_take]; omega, hs, rfl, rfl, rfl, hok, hh, hbd, rfl⟩
          · rw [headL_bad hc hs] at h1; exact absurd rfl h1
        · rw [headL_miss hc] at h1; exact absurd rfl h1
      · rw [if_neg h2] at h0; exact absurd rfl h0

/-- A request of right lines, with a body. -/
theorem reqQ_gen (f : List UInt8) (ls : List (List UInt8)) (rest : List UInt8) (size : Int) (coded : Bool) (hf : plain f = true) (hfl : f.length ≤ 2046) (hst : rqSt (tx f) = 0) (hg : ∀ l ∈ ls, GoodL l) (hn : f.length + 2 + ((flatL ls).length + 2) ≤ 2048) (h40 : ls.length ≤ 40) (hr : reqF (ls.map fOf) (rqP (tx f)).minor = (size, coded, 0)) (hh : hostsOk (getF (ls.map fOf) tHost) (rqP (tx f)).minor = true) :
    reqQ (f ++ 13 :: 10 :: (flatL ls ++ 13 :: 10 :: rest)) = rdOf ⟨(rqP (tx f)).method, (rqP (tx f)).target, (rqP (tx f)).minor, ls.map fOf, f.length + 2 + ((flatL ls).length + 2), 0⟩ (bodyQ (f ++ 13 :: 10 :: (flatL ls ++ 13 :: 10 :: rest)) (f.length + 2 + ((flatL ls).length + 2)) size coded) := by
  obtain ⟨e1, e2⟩ := headL_lines rqSt f ls rest hf hfl hst hg
  rw [if_pos ⟨hn, h40⟩] at e2
  generalize f ++ 13 :: 10 :: (flatL ls ++ 13 :: 10 :: rest) = b at *
  have hH : headQ b = ⟨(rqP (tx f)).method, (rqP (tx f)).target, (rqP (tx f)).minor, ls.map fOf, f.length + 2 + ((flatL ls).length + 2), 0⟩ := by
    unfold headQ headSt
    rw [e1, e2, if_neg (show ¬ f.length + 2 + ((flatL ls).length + 2) = 0 by omega), hr, if_pos hh, if_pos rfl]
  unfold reqQ
  rw [hH, if_neg (show ¬ f.length + 2 + ((flatL ls).length + 2) = 0 by omega)]
  unfold bodyOf
  simp only
  rw [hr]
theorem lines_drop (f : List UInt8) (ls : List (List UInt8)) (rest : List UInt8) : (f ++ 13 :: 10 :: (flatL ls ++ 13 :: 10 :: rest)).drop (f.length + 2 + ((flatL ls).length + 2)) = rest ∧ (f ++ 13 :: 10 :: (flatL ls ++ 13 :: 10 :: rest)).length - (f.length + 2 + ((flatL ls).length + 2)) = rest.length := by
  constructor
  · rw [← List.drop_drop, drop_line, drop_line]
  · simp only [List.length_append, List.length_cons]; omega
theorem body_sized (f : List UInt8) (ls : List (List UInt8)) (x more : List UInt8) : bodyQ (f ++ 13 :: 10 :: (flatL ls ++ 13 :: 10 :: (x ++ more))) (f.length + 2 + ((flatL ls).length + 2)) (x.length : Int) false = (x, f.length + 2 + ((flatL ls).length + 2) + x.length, 0) := by
  obtain ⟨e1, e2⟩ := lines_drop f ls (x ++ more)
  unfold bodyQ
  rw [if_neg (by decide), e1, e2, if_neg (by rw [List.length_append]; omega), Int.toNat_natCast, List.take_left]
theorem body_coded (f : List UInt8) (ls : List (List UInt8)) (x more : List UInt8) (size : Int) (hx : x.length ≤ 4096) : bodyQ (f ++ 13 :: 10 :: (flatL ls ++ 13 :: 10 :: (encR size x ++ more))) (f.length + 2 + ((flatL ls).length + 2)) 0 true = (x, f.length + 2 + ((flatL ls).length + 2) + (encR size x).length, 0) := by
  obtain ⟨e1, e2⟩ := lines_drop f ls (encR size x ++ more)
  have k := enc_back size x more 4096 (by omega) hx
  have k2 := (encR_len size x).1
  unfold bodyQ
  rw [if_pos rfl, e1, k, if_neg (by simp only; omega)]

def fLines (fs : Fs) : List (List UInt8) := fs.map fun f => linF f.1 f.2 [32]
theorem fLines_good {fs : Fs} (h : OkFs fs) : (∀ l ∈ fLines fs, GoodL l) ∧ (fLines fs).map fOf = fs := by
  have hb : ∀ b ∈ ([32] : List UInt8), blk b = true := fun b hb => by rw [List.mem_singleton.1 hb]; decide
  constructor
  · intro l hl
    obtain ⟨f, hf, rfl⟩ := List.mem_map.1 hl
    exact (good_lin (h f hf) [32] hb (by decide)).1
  · unfold fLines
    rw [List.map_map]
    have e : ∀ f ∈ fs, (fOf ∘ fun f : ByteArray × ByteArray => linF f.1 f.2 [32]) f = f := fun f hf => (good_lin (h f hf) [32] hb (by decide)).2
    rw [List.map_congr_left e]
    exact List.map_id _
theorem linesB_flat : ∀ fs : Fs, linesB fs = flatL (fLines fs)
  | [] => rfl
  | f :: fs => by
    have e : fLines (f :: fs) = linF f.1 f.2 [32] :: fLines fs := rfl
    rw [e, flatL_cons, ← linesB_flat fs]
    unfold linesB
    rw [List.flatMap_cons, line_data, body_data]
    unfold linF
    simp
theorem write_lines (s : ByteArray) (fs : Fs) (body : List UInt8) : writeB (s ++ ⟨#[13, 10]⟩) fs body = s.data.toList ++ 13 :: 10 :: (flatL (fLines fs) ++ 13 :: 10 :: body) := by
  unfold writeB
  rw [linesB_flat, ByteArray.data_append, Array.toList_append]
  simp

theorem decT_dgs : ∀ a : Fin 65, ∀ b : Fin 64, 0 < (decT (64 * a.val + b.val)).length ∧ (decT (64 * a.val + b.val)).length ≤ 18 ∧ (decT (64 * a.val + b.val)).all (fun b => decide (48 ≤ b.toNat) && decide (b.toNat ≤ 57)) = true ∧ vN 10 (decT (64 * a.val + b.val)) = some (64 * a.val + b.val) := by decide +kernel
theorem dgs_decT (n : Nat) (h : n ≤ 4096) : Dgs (decT n) n := by
  have k := decT_dgs ⟨n / 64, by omega⟩ ⟨n % 64, by omega⟩
  simp only at k
  rw [show 64 * (n / 64) + n % 64 = n by omega] at k
  obtain ⟨h1, h2, h3, h4⟩ := k
  refine ⟨h1, h2, fun b hb => ?_, h4⟩
  have k := List.all_eq_true.1 h3 b hb
  simpa using k
theorem Dgs.ok {X : List UInt8} {n : Nat} (h : Dgs X n) : okF tCL (tx X) = true := by
  unfold okF
  rw [Bool.and_eq_true]
  refine ⟨by decide +kernel, ?_⟩
  have e1 : trimT (tx X) = tx X := by
    refine bytes_eq ?_
    show trimP X = X
    exact trim_self h.nf h.nl
  have e2 : allB valP (tx X).data.toList = true := by
    unfold allB
    rw [List.all_eq_true]
    intro b hb
    have k := h.dig b hb
    obtain ⟨q1, q2⟩ := k
    have : ∀ c : Fin 10, valP ((48 + c.val : Nat) : Int) = true := by decide +kernel
    have r := this ⟨b.toNat - 48, by omega⟩
    simp only at r
    rw [show 48 + (b.toNat - 48) = b.toNat by omega] at r
    exact r
  unfold okVal eqT
  rw [e1, e2, decide_eq_true (by rw [tx_size]; have := h.len; omega)]
  simp

def lCLn : ByteArray := ⟨#[99, 111, 110, 116, 101, 110, 116, 45, 108, 101, 110, 103, 116, 104]⟩
def lTEn : ByteArray := ⟨#[116, 114, 97, 110, 115, 102, 101, 114, 45, 101, 110, 99, 111, 100, 105, 110, 103]⟩
theorem getF_app (a b : Fs) (n : ByteArray) : getF (a ++ b) n = getF a n ++ getF b n := by unfold getF; rw [List.filter_append, List.map_append]
theorem left_CL (fs : Fs) : getF (withoutF fs [lCLn, lTEn]) tCL = [] := by
  rw [← getF_congr (show foldS lCLn = foldS tCL by decide +kernel)]
  exact get_left fs _ _ (List.mem_cons_self ..)
theorem left_TE (fs : Fs) : getF (withoutF fs [lCLn, lTEn]) tTE = [] := by
  rw [← getF_congr (show foldS lTEn = foldS tTE by decide +kernel)]
  exact get_left fs _ _ (List.mem_cons_of_mem _ (List.mem_cons_self ..))
theorem left_host (fs : Fs) : getF (withoutF fs [lCLn, lTEn]) tHost = getF fs tHost := by
  unfold getF withoutF
  rw [List.filter_filter]
  congr 1
  refine List.filter_congr fun f hf => ?_
  cases h : smT f.1 tHost
  · rfl
  · have h1 : smT lCLn f.1 = false := by
      cases k : smT lCLn f.1
      · rfl
      · have := smT_trans k h
        revert this; decide +kernel
    have h2 : smT lTEn f.1 = false := by
      cases k : smT lTEn f.1
      · rfl
      · have := smT_trans k h
        revert this; decide +kernel
    unfold anyT
    simp [h1, h2]
/-- Fields whose lengths are told anew. -/
def newL (fs : Fs) (coded : Bool) (n : Nat) : Fs := withoutF fs [lCLn, lTEn] ++ [if coded = true then (tTE, tCh) else (tCL, tx (decT n))]
theorem newL_ok {fs : Fs} (h : OkFs fs) (coded : Bool) (n : Nat) (hn : n ≤ 4096) : OkFs (newL fs coded n) := by
  intro f hf
  rcases List.mem_append.1 hf with k | k
  · exact h f (List.mem_filter.1 k).1
  · rw [List.mem_singleton.1 k]
    cases coded
    · exact (dgs_decT n hn).ok
    · show okF tTE tCh = true
      decide +kernel
theorem newL_host (fs : Fs) (coded : Bool) (n : Nat) : getF (newL fs coded n) tHost = getF fs tHost := by
  unfold newL
  rw [getF_app, left_host]
  have e : getF [if coded = true then (tTE, tCh) else (tCL, tx (decT n))] tHost = [] := by
    unfold getF
    cases coded
    · have : smT tCL tHost = false := by decide +kernel
      simp [this]
    · have : smT tTE tHost = false := by decide +kernel
      simp [this]
  rw [e, List.append_nil]
theorem newL_coded (fs : Fs) (n : Nat) : reqF (newL fs true n) 1 = (0, true, 0) := by
  have g1 : getF (newL fs true n) tTE = [tCh] := by
    unfold newL
    rw [getF_app, left_TE, if_pos rfl]
    decide +kernel
  have g2 : getF (newL fs true n) tCL = [] := by
    unfold newL
    rw [getF_app, left_CL, if_pos rfl]
    decide +kernel
  have t1 : thereF (newL fs true n) tTE = true := by unfold thereF; rw [g1]; rfl
  have t2 : thereF (newL fs true n) tCL = false := by unfold thereF; rw [g2]; rfl
  have t3 : chunkedF (newL fs true n) = true := by
    unfold chunkedF listF
    rw [g1]
    decide +kernel
  have t4 : toldF (newL fs true n) 1 = (2, 0, 0) := by
    unfold toldF
    rw [t1, t2, t3]
    rfl
  unfold reqF
  rw [t4]
  rfl
theorem newL_sized (fs : Fs) (n : Nat) (hn : n ≤ 4096) (mi : Int) : reqF (newL fs false n) mi = ((n : Int), false, 0) := by
  have D := dgs_decT n hn
  have g1 : getF (newL fs false n) tTE = [] := by
    unfold newL
    rw [getF_app, left_TE, if_neg (by decide)]
    have : smT tCL tTE = false := by decide +kernel
    unfold getF
    simp [this]
  have g2 : getF (newL fs false n) tCL = [tx (decT n)] := by
    unfold newL
    rw [getF_app, left_CL, if_neg (by decide)]
    have : smT tCL tCL = true := by decide +kernel
    unfold getF
    simp [this]
  have t1 : thereF (newL fs false n) tTE = false := by unfold thereF; rw [g1]; rfl
  have t2 : thereF (newL fs false n) tCL = true := by unfold thereF; rw [g2]; rfl
  have t3 : lengthF (newL fs false n) = ((n : Int), true) := by
    unfold lengthF listF splA
    rw [g2]
    have e : [tx (decT n)].flatMap splT = List.replicate 1 ⟨(decT n).toArray⟩ := by
      rw [List.flatMap_cons, List.flatMap_nil, List.append_nil]
      exact D.spl
    rw [e]
    exact lenL_rep D 0
  have t4 : toldF (newL fs false n) mi = (1, (n : Int), 0) := by
    unfold toldF
    rw [t1, t2, t3]
    simp only [Bool.false_and, Bool.false_eq_true, if_false, Bool.true_eq_false]
    rw [if_neg (by omega)]
  unfold reqF
  rw [t4]
  rfl
def newB (coded : Bool) (size : Int) (body : List UInt8) : List UInt8 := if coded = true then encR size body else body
def newX (r : Rd) (coded : Bool) (size : Int) : List UInt8 := writeB (reqT r.m r.t (verT r.minor)) (newL r.fs coded r.body.length) (newB coded size r.body)
/-- A request that is read, its lengths told anew, is read again. -/
theorem http_back (b more : List UInt8) (size : Int) (coded : Bool) (hn : ¬ (reqQ b).n = 0) (h40 : (reqQ b).fs.length < 40) (hc : coded = true → ¬ (reqQ b).minor = 0) :
    reqQ (newX (reqQ b) coded size ++ more) = if (newX (reqQ b) coded size).length - (newB coded size (reqQ b).body).length ≤ 2048 then ⟨(reqQ b).m, (reqQ b).t, (reqQ b).minor, newL (reqQ b).fs coded (reqQ b).body.length, (reqQ b).body, (newX (reqQ b) coded size).length, 0⟩ else rdNo 431 := by
  obtain ⟨f, H⟩ := reqQ_read b hn
  generalize reqQ b = r at *
  obtain ⟨k1, k2, _, _⟩ := req_back (s := tx f) H.st
  have hok := newL_ok H.ok coded r.body.length H.bd
  obtain ⟨g1, g2⟩ := fLines_good hok
  have e1 : newX r coded size = f ++ 13 :: 10 :: (flatL (fLines (newL r.fs coded r.body.length)) ++ 13 :: 10 :: newB coded size r.body) := by
    unfold newX
    rw [H.m, H.t, H.mi, k1, write_lines]
    rfl
  have e2 : newX r coded size ++ more = f ++ 13 :: 10 :: (flatL (fLines (newL r.fs coded r.body.length)) ++ 13 :: 10 :: (newB coded size r.body ++ more)) := by
    rw [e1]; simp
  have e3 : (newX r coded size).length = f.length + 2 + ((flatL (fLines (newL r.fs coded r.body.length))).length + 2) + (newB coded size r.body).length := by
    rw [e1]; simp only [List.length_append, List.length_cons]; omega
  have h41 : (fLines (newL r.fs coded r.body.length)).length ≤ 40 := by
    unfold fLines newL
    rw [List.length_map, List.length_append]
    have := withoutF_len r.fs [lCLn, lTEn]
    simp only [List.length_cons, List.length_nil]
    omega
  rw [e2]
  by_cases hl : (newX r coded size).length - (newB coded size r.body).length ≤ 2048
  · rw [if_pos hl]
    have hl2 : f.length + 2 + ((flatL (fLines (newL r.fs coded r.body.length))).length + 2) ≤ 2048 := by omega
    have hh : hostsOk (getF ((fLines (newL r.fs coded r.body.length)).map fOf) tHost) (rqP (tx f)).minor = true := by
      rw [g2, newL_host, ← H.mi]; exact H.ho
    cases coded
    · have hr : reqF ((fLines (newL r.fs false r.body.length)).map fOf) (rqP (tx f)).minor = ((r.body.length : Int), false, 0) := by
        rw [g2]; exact newL_sized _ _ H.bd _
      rw [reqQ_gen f _ _ _ _ H.pl H.le H.st g1 hl2 h41 hr hh, g2, e3]
      have e4 : newB false size r.body = r.body := rfl
      rw [e4, body_sized]
      unfold rdOf
      rw [if_neg (by simp only; omega), H.m, H.t, H.mi]
    · have hmi : (rqP (tx f)).minor = 1 := by
        have := hc rfl
        rw [H.mi] at this
        rcases k2 with k | k
        · exact absurd k this
        · exact k
      have hr : reqF ((fLines (newL r.fs true r.body.length)).map fOf) (rqP (tx f)).minor = (0, true, 0) := by
        rw [g2, hmi]; exact newL_coded _ _
      rw [reqQ_gen f _ _ _ _ H.pl H.le H.st g1 hl2 h41 hr hh, g2, e3]
      have e4 : newB true size r.body = encR size r.body := rfl
      rw [e4, body_coded _ _ _ _ _ H.bd]
      unfold rdOf
      rw [if_neg (by simp only; omega), H.m, H.t, H.mi]
  · rw [if_neg hl]
    exact reqQ_refused f _ _ H.pl H.le H.st g1 (by omega)
end Go.Proofs.YtkdnckkdofoaoaaGreatDoor
