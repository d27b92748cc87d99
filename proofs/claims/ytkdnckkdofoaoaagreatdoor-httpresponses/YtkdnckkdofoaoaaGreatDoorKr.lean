/- Texts that the proof leans on, one behind the other: RqA RqB RqC RqD -/
import Derived.Test.YtkdnckkdofoaoaaGreatDoorKg
import Derived.Test.YtkdnckkdofoaoaaGreatDoorKm
import Derived.Test.YtkdnckkdofoaoaaGreatDoorKd
import Derived.Test.YtkdnckkdofoaoaaGreatDoorKq
/- The reference's reading of heads, plain: lines first, then what they say. -/
namespace Go.Proofs.YtkdnckkdofoaoaaGreatDoor
open Go.RowKit
set_option linter.unusedVariables false

theorem cut_err (m : Nat) : ∀ (l : List UInt8) (i : Nat) (e : Int), i + l.length ≤ m → cutAt m i l = (none, e) → e = 0 ∨ e = 20
  | [], i, e, _, h => by
    rw [cutAt] at h
    exact Or.inl (Prod.mk.inj h).2.symm
  | c :: l, i, e, hl, h => by
    rw [cutAt] at h
    rw [List.length_cons] at hl
    by_cases h1 : c = 10
    · rw [if_pos h1] at h; exact Or.inr (Prod.mk.inj h).2.symm
    · rw [if_neg h1] at h
      by_cases h2 : c = 13
      · rw [if_pos h2] at h
        by_cases h3 : l.head? = none
        · rw [if_pos h3] at h; exact Or.inl (Prod.mk.inj h).2.symm
        · rw [if_neg h3] at h
          by_cases h4 : l.head? = some 10
          · rw [if_pos h4] at h; cases (Prod.mk.inj h).1
          · rw [if_neg h4] at h; exact Or.inr (Prod.mk.inj h).2.symm
      · rw [if_neg h2, if_neg (by omega)] at h
        exact cut_err m l (i + 1) e (by omega) h

def plusT (acc : List ByteArray) (at_ : Nat) (r : List ByteArray × Nat × Int) : List ByteArray × Nat × Int := (acc ++ r.1, (if r.2.1 = 0 then 0 else at_ + r.2.1), r.2.2)
/-- The lines of a head from a place on; ne: stands one ahead? -/
def lnL (full : Bool) : Nat → Bool → List UInt8 → List ByteArray × Nat × Int
  | 0, _, _ => ([], 0, 0)
  | f + 1, ne, l => match cutAt 2048 0 l with
    | (none, e) => ([], 0, hst full e)
    | (some i, _) => if i = 0 ∧ ne = true then ([], 2, 0) else plusT [tx (l.take i)] (i + 2) (lnL full f true (l.drop (i + 2)))
theorem lnL_miss {full : Bool} {f : Nat} {ne : Bool} {l : List UInt8} {e : Int} (h : cutAt 2048 0 l = (none, e)) : lnL full (f + 1) ne l = ([], 0, hst full e) := by
  unfold lnL; rw [h]
theorem lnL_end {full : Bool} {f : Nat} {l : List UInt8} {e : Int} (h : cutAt 2048 0 l = (some 0, e)) : lnL full (f + 1) true l = ([], 2, 0) := by
  unfold lnL; rw [h]; rfl
theorem lnL_next {full : Bool} {f i : Nat} {ne : Bool} {l : List UInt8} {e : Int} (h : cutAt 2048 0 l = (some i, e)) (hn : ¬ (i = 0 ∧ ne = true)) : lnL full (f + 1) ne l = plusT [tx (l.take i)] (i + 2) (lnL full f true (l.drop (i + 2))) := by
  conv => lhs; unfold lnL
  rw [h]; simp only; rw [if_neg hn]
theorem plusT_plusT (a b : List ByteArray) (i j : Nat) (r : List ByteArray × Nat × Int) : plusT a i (plusT b j r) = plusT (a ++ b) (i + j) r := by
  unfold plusT
  by_cases h : r.2.1 = 0
  · simp only [if_pos h, List.append_assoc]; rfl
  · simp only [if_neg h, List.append_assoc]
    rw [if_neg (by omega), Nat.add_assoc]

/-- The fields of lines, of which r may come; a status. -/
def fldsP : List ByteArray → Nat → Fs × Int
  | [], _ => ([], 0)
  | s :: ss, r => if (prs s).2.2 = 0 then (match r with | 0 => ([], 431) | r + 1 => if (fldsP ss r).2 = 0 then (((prs s).1, (prs s).2.1) :: (fldsP ss r).1, 0) else ([], (fldsP ss r).2)) else ([], 400)
def plusP (acc : Fs) (q : Fs × Int) : Fs × Int := if q.2 = 0 then (acc ++ q.1, 0) else ([], q.2)
theorem fldsP_bad {s : ByteArray} {ss : List ByteArray} {r : Nat} (h : ¬ (prs s).2.2 = 0) : fldsP (s :: ss) r = ([], 400) := by
  unfold fldsP; rw [if_neg h]
theorem fldsP_many {s : ByteArray} {ss : List ByteArray} (h : (prs s).2.2 = 0) : fldsP (s :: ss) 0 = ([], 431) := by
  unfold fldsP; rw [if_pos h]
theorem fldsP_next {s : ByteArray} {ss : List ByteArray} {r : Nat} (h : (prs s).2.2 = 0) : fldsP (s :: ss) (r + 1) = plusP [((prs s).1, (prs s).2.1)] (fldsP ss r) := by
  conv => lhs; unfold fldsP
  rw [if_pos h]
  rfl
theorem plusP_plusP (a b : Fs) (q : Fs × Int) : plusP a (plusP b q) = plusP (a ++ b) q := by
  unfold plusP
  by_cases h : q.2 = 0
  · simp only [if_pos h, List.append_assoc]; rfl
  · simp only [if_neg h]
theorem plusP_err (a : Fs) (e : Int) (h : ¬ e = 0) : plusP a ([], e) = ([], e) := by unfold plusP; rw [if_neg h]
theorem plusP_nil (q : Fs × Int) (h : q.2 = 0 ∨ q.1 = []) : plusP [] q = q := by
  unfold plusP
  obtain ⟨a, e⟩ := q
  by_cases h0 : e = 0
  · subst h0; rfl
  · simp only [if_neg h0]
    rcases h with h | h
    · exact absurd h h0
    · simp only at h; rw [h]
theorem fldsP_ok : ∀ (ss : List ByteArray) (r : Nat), (fldsP ss r).1.length ≤ r ∧ FBd 1000 (fldsP ss r).1 ∧ ((fldsP ss r).2 = 0 ∨ (fldsP ss r).1 = []) ∧ (fldsP ss r).1.length ≤ ss.length
  | [], r => ⟨Nat.zero_le _, (fun f hf => by cases hf), Or.inl rfl, Nat.le_refl _⟩
  | s :: ss, r => by
    by_cases h : (prs s).2.2 = 0
    · cases r with
      | zero => rw [fldsP_many h]; exact ⟨Nat.zero_le _, (fun f hf => by cases hf), Or.inr rfl, Nat.zero_le _⟩
      | succ r =>
        rw [fldsP_next h]
        have k := fldsP_ok ss r
        unfold plusP
        by_cases h2 : (fldsP ss r).2 = 0
        · rw [if_pos h2]
          refine ⟨?_, ?_, Or.inl rfl, ?_⟩
          · simp only [List.length_append, List.length_cons, List.length_nil]; omega
          · intro g hg
            rcases List.mem_append.1 hg with q | q
            · rw [List.mem_singleton.1 q]; exact prs_bd s
            · exact k.2.1 g q
          · simp only [List.length_append, List.length_cons, List.length_nil]; omega
        · rw [if_neg h2]; exact ⟨Nat.zero_le _, (fun f hf => by cases hf), Or.inr rfl, Nat.zero_le _⟩
    · rw [fldsP_bad h]; exact ⟨Nat.zero_le _, (fun f hf => by cases hf), Or.inr rfl, Nat.zero_le _⟩

/-- What lines say, and what is left of them. -/
def saidP (F : Fs × Int) (n : Nat) (code : Int) : Fs × Nat × Int := if F.2 = 0 then (if n = 0 then ([], 0, code) else (F.1, n, 0)) else ([], 0, F.2)
theorem fldL_lines (full : Bool) : ∀ (f : Nat) (l : List UInt8) (r : Nat), l.length < f → fldL full r l = saidP (fldsP (lnL full f true l).1 r) (lnL full f true l).2.1 (lnL full f true l).2.2 := by
  intro f
  induction f with
  | zero => intro l r h; exact absurd h (Nat.not_lt_zero _)
  | succ f ih =>
    intro l r hf
    rcases cut_cases 2048 l with ⟨i, hc, hl, _⟩ | ⟨e, hc⟩
    · by_cases hi : i = 0
      · subst hi
        rw [fldL_end hc, lnL_end hc]; rfl
      · rw [lnL_next hc (fun h => hi h.1)]
        have hlen : (l.drop (i + 2)).length < f := by rw [List.length_drop]; omega
        have IH := fun r => ih (l.drop (i + 2)) r hlen
        generalize lnL full f true (l.drop (i + 2)) = X at *
        obtain ⟨ss, n, code⟩ := X
        have e1 : (plusT [tx (l.take i)] (i + 2) (ss, n, code)).1 = tx (l.take i) :: ss := rfl
        have e2 : (plusT [tx (l.take i)] (i + 2) (ss, n, code)).2.1 = if n = 0 then 0 else i + 2 + n := rfl
        have e3 : (plusT [tx (l.take i)] (i + 2) (ss, n, code)).2.2 = code := rfl
        rw [e1, e2, e3]
        cases hk : fldOk (l.take i)
        · have hp : ¬ (prs (tx (l.take i))).2.2 = 0 := by unfold fldOk at hk; simpa using hk
          rw [fldL_bad hc hi hk, fldsP_bad hp]; rfl
        · have hp : (prs (tx (l.take i))).2.2 = 0 := by unfold fldOk at hk; simpa using hk
          cases r with
          | zero => rw [fldL_many hc hi hk, fldsP_many hp]; rfl
          | succ r =>
            rw [fldL_next hc hi hk, fldsP_next hp, IH r]
            simp only
            generalize fldsP ss r = F
            obtain ⟨F1, F2⟩ := F
            unfold saidP plusP plusH
            by_cases h2 : F2 = 0
            · by_cases hn : n = 0
              · simp [h2, hn]
              · simp [h2, hn, fOf]
            · simp [h2]
    · rw [fldL_miss hc, lnL_miss hc]; rfl

def rlines (b : List UInt8) : List ByteArray × Nat × Int := lnL (fullB b) 2050 false (b.take 2048)
/-- A head, told of its lines. -/
def sayP (st : ByteArray → Int) (x : List ByteArray × Nat × Int) : Fs × Nat × Int := match x.1 with
  | [] => ([], 0, x.2.2)
  | s :: ss => if st s = 0 then saidP (fldsP ss 40) x.2.1 x.2.2 else ([], 0, st s)
theorem head_lines (st : ByteArray → Int) (b : List UInt8) : headL st b = sayP st (rlines b) ∧ ∀ s ss, (rlines b).1 = s :: ss → firstL b = s := by
  unfold rlines
  have hlt : (b.take 2048).length ≤ 2048 := by rw [List.length_take]; omega
  rcases cut_cases 2048 (b.take 2048) with ⟨i, hc, hl, _⟩ | ⟨e, hc⟩
  · rw [lnL_next hc (fun h => by cases h.2)]
    have hlen : ((b.take 2048).drop (i + 2)).length < 2049 := by rw [List.length_drop]; omega
    have k := fldL_lines (fullB b) 2049 _ 40 hlen
    generalize lnL (fullB b) 2049 true ((b.take 2048).drop (i + 2)) = X at *
    obtain ⟨ss, n, code⟩ := X
    have e1 : (plusT [tx ((b.take 2048).take i)] (i + 2) (ss, n, code)) = (tx ((b.take 2048).take i) :: ss, (if n = 0 then 0 else i + 2 + n), code) := rfl
    rw [e1]
    refine ⟨?_, fun s ss' h => ?_⟩
    · unfold sayP
      simp only
      by_cases hs : st (tx ((b.take 2048).take i)) = 0
      · rw [headL_hit hc hs, if_pos hs, k]
        simp only
        generalize fldsP ss 40 = F
        obtain ⟨F1, F2⟩ := F
        unfold saidP plusH
        by_cases h2 : F2 = 0
        · by_cases hn : n = 0
          · simp [h2, hn]
          · simp [h2, hn]
        · simp [h2]
      · rw [headL_bad hc hs, if_neg hs]
    · rw [firstL_hit hc]; exact (List.cons.inj h).1
  · rw [lnL_miss hc]
    refine ⟨headL_miss hc, fun s ss' h => ?_⟩
    cases h
theorem lnL_sizes (full : Bool) : ∀ (f : Nat) (ne : Bool) (l : List UInt8), l.length ≤ 2048 → (∀ s ∈ (lnL full f ne l).1, s.size ≤ 2048) ∧ (lnL full f ne l).1.length ≤ l.length ∧ (lnL full f ne l).2.1 ≤ l.length := by
  intro f
  induction f with
  | zero => intro ne l _; exact ⟨(fun s hs => by cases hs), Nat.zero_le _, Nat.zero_le _⟩
  | succ f ih =>
    intro ne l hl0
    rcases cut_cases 2048 l with ⟨i, hc, hl, _⟩ | ⟨e, hc⟩
    · by_cases hi : i = 0 ∧ ne = true
      · obtain ⟨rfl, rfl⟩ := hi
        rw [lnL_end hc]; exact ⟨(fun s hs => by cases hs), Nat.zero_le _, hl⟩
      · rw [lnL_next hc hi]
        have k := ih true (l.drop (i + 2)) (by rw [List.length_drop]; omega)
        rw [List.length_drop] at k
        generalize lnL full f true (l.drop (i + 2)) = X at *
        obtain ⟨ss, n, code⟩ := X
        simp only at k
        refine ⟨?_, ?_, ?_⟩
        · intro s hs
          rcases List.mem_append.1 hs with q | q
          · rw [List.mem_singleton.1 q, tx_size, List.length_take]; omega
          · exact k.1 s q
        · show ([tx (l.take i)] ++ ss).length ≤ _
          rw [List.length_append]; simp only [List.length_cons, List.length_nil]; omega
        · show (if n = 0 then 0 else i + 2 + n) ≤ _
          split <;> omega
    · rw [lnL_miss hc]; exact ⟨(fun s hs => by cases hs), Nat.zero_le _, Nat.zero_le _⟩
end Go.Proofs.YtkdnckkdofoaoaaGreatDoor

/- The reference's Lines. -/
namespace Go.Proofs.YtkdnckkdofoaoaaGreatDoor
open Go.ChangeShapes Go.WideShapes Go.ChangeAt Go.RowKit
set_option linter.unusedVariables false

theorem plusT_nil (X : List ByteArray × Nat × Int) : plusT [] 0 X = X := by
  obtain ⟨a, n, e⟩ := X
  unfold plusT
  by_cases h : n = 0
  · subst h; rfl
  · simp only [if_neg h, List.nil_append, Nat.zero_add]
theorem room_next (b : List UInt8) (i j : Nat) : roomL b (i + j) = (roomL b i).drop j := by unfold roomL; rw [List.drop_drop]

set_option maxRecDepth 100000 in
set_option maxHeartbeats 4000000 in
theorem rlines_any (b : List UInt8) (kb c : Nat) (a : Option Addr) (w : World) (hs : Src w kb (.slice a b.length c) b) (hk : 0 < b.length → kb < w.heap.size) :
    Calls Tryz.prog 46 #[.slice a b.length c] w fun e w' => ∃ ao cv, e = .returned (.tuple #[.slice ao (rlines b).1.length cv, .int .i64 ((rlines b).2.1 : Nat), .int .i64 (rlines b).2.2]) ∧ OwnT w.heap.size w' (.slice ao (rlines b).1.length cv) (rlines b).1 ∧ Below w.heap.size w w' := by
  have hlen := hs.len
  obtain ⟨n, hn⟩ : ∃ n, n = b.length := ⟨_, rfl⟩
  obtain ⟨m, hm⟩ : ∃ m, m = min 2048 n := ⟨_, rfl⟩
  have C0 : Below w.heap.size w (w.alloc (.cells #[] 9)) := (Below.refl _ _).alloc (Nat.le_refl _) _
  have hR : ∀ at_, roomL b at_ = (b.take m).drop at_ := fun at_ => by
    unfold roomL
    congr 1
    rw [hm, hn, ← List.take_eq_take_min]
  have hroom : Hid (∀ at_, (roomL b at_).length = m - at_) := fun at_ => by
    rw [hR, List.length_drop, List.length_take]; omega
  have HC : Hid (∀ (W : World) (at_ : Nat) (v : Value), Src W kb v (roomL b at_) → Calls Tryz.prog 88 #[v, .int .i64 2048] W fun e w' => e = .returned (cutV 2048 (roomL b at_)) ∧ w' = W) := fun W at_ v h => rcut_any _ kb _ 2048 W h
  have HCE : Hid (∀ (W : World) (at_ : Nat) (a' : Option Addr), Below w.heap.size w W → at_ ≤ m → (at_ < c → a' = a.map (fun x => x.add at_)) → Src W kb (.slice a' (m - at_) (c - at_)) (roomL b at_)) := fun W at_ a' hB ha ha' => by
    rw [hR]
    exact ((hs.keep hk hB).take (m := m) (by omega)).cut (by rw [List.length_take]; omega) ha'
  rw [← hn] at hlen ⊢
  have hc2 : c ≤ maxLen := hlen.2.2
  unfold maxLen at hc2
  have hnc : n ≤ c := hlen.2.1
  obtain ⟨full, hfull⟩ : ∃ full, full = fullB b := ⟨_, rfl⟩
  have HF : Hid (full = decide (2048 ≤ n)) := by rw [Hid, hfull, hn]; rfl
  have hst0 : Hid (rlines b = plusT [] 0 (lnL full 2050 (decide (0 < ([] : List ByteArray).length)) (roomL b 0))) := by
    rw [Hid, plusT_nil, hfull]; rfl
  clear hs hk hlen hn hR hfull
  generalize rlines b = R at *
  have hmc : m ≤ c := by omega
  by_cases hbig : 2048 < n
  · have hm2 : m = 2048 := by omega
    subst hm2
    clear hm
    have hbi : (2048 : Int) < (n : Int) := by omega
    go_enter Tryz.func46, Tryz.ntmps46
    go_wp2_with fail
    go_loopw [5, 6] (fun vo va wr => ∃ (at_ f : Nat) (K : List ByteArray) (ao : Option Addr) (cv : Nat), at_ ≤ 2048 ∧ K.length ≤ at_ ∧ vo = .slice ao K.length cv ∧ va = .int .i64 at_ ∧ OwnT w.heap.size wr vo K ∧ Hid (2048 - at_ < f) ∧ Hid (R = plusT K at_ (lnL full f (decide (0 < K.length)) (roomL b at_))) ∧ Below w.heap.size w wr) (fun _ va _ => 2048 - (intOf va).toNat)
    case atStart => exact ⟨0, 2050, [], _, 0, by omega, Nat.zero_le _, rfl, rfl, OwnT.empty _ _ (Nat.le_refl _), by rw [Hid]; omega, hst0, C0⟩
    case round =>
      obtain ⟨at_, f, K, ao, cv, hat, hK, rfl, rfl, hO, hf, hR, hB⟩ := hrel
      clear C0 hst0
      have HO : Hid (OwnT w.heap.size wr (.slice ao K.length cv) K) := hO
      have HKL : Hid (K.length ≤ 16777216) := by rw [Hid]; omega
      clear hO
      have hrm := hroom.out at_
      have hcell : Hid (∀ a' : Option Addr, (at_ < c → a' = a.map (fun x => x.add at_)) → Src wr kb (.slice a' (2048 - at_) (c - at_)) (roomL b at_)) := fun a' h => HCE.out wr at_ a' hB hat h
      obtain ⟨f', rfl⟩ : ∃ f', f = f' + 1 := ⟨f - 1, by have := hf.out; omega⟩
      rcases cut_cases 2048 (roomL b at_) with ⟨j, hc, hl, _⟩ | ⟨er, hc⟩
      · rw [hrm] at hl
        have hj2 : ¬ ((j : Int) + 2) = 0 := by omega
        have hj3 : (((j : Int) + 2) == 0) = false := by simpa using hj2
        have HC3 : Hid (∀ v : Value, Src wr kb v (roomL b at_) → Calls Tryz.prog 88 #[v, .int .i64 2048] wr fun e w' => e = .returned (.tuple #[.string (tx ((roomL b at_).take j)), .int .i64 ((j : Int) + 2), .int .i64 0]) ∧ w' = wr) := fun v h => by
          have k := HC.out wr at_ v h
          rw [cutV_hit hc] at k
          exact k
        by_cases h0 : j = 0 ∧ 0 < K.length
        · obtain ⟨rfl, hKp⟩ := h0
          have hKi : (0 : Int) < (K.length : Int) := by omega
          have HE : Hid (R = (K, at_ + 2, 0)) := by
            rw [Hid, hR.out, decide_eq_true hKp, lnL_end hc]
            unfold plusT
            simp
          have HCX : Hid (∀ v : Value, Src wr kb v (roomL b at_) → Calls Tryz.prog 88 #[v, .int .i64 2048] wr fun e w' => e = .returned (.tuple #[.string ⟨#[]⟩, .int .i64 2, .int .i64 0]) ∧ w' = wr) := HC3.out
          clear HC3 hc hR hj2 hj3 hrm hf
          go_wp2_with fail
          all_goals
            refine (HCX.out _ (by first | (have hx := hcell.out a (fun h => by omega); rw [show c - at_ = 0 by omega] at hx; exact hx) | exact hcell.out _ (fun _ => rfl) | exact hcell.out _ (fun h => if_neg (by omega)) | exact hcell.out _ (fun h => by omega))).mono ?_
            rintro e w1 ⟨rfl, rfl⟩
            go_wp2
            refine bodyPost_ret (v := .tuple #[.slice ao K.length cv, .int .i64 ((at_ : Int) + 2), .int .i64 0]) (by simp [results, Tryz.results46, go_sem]) rfl ?_
            rw [HE.out]
            exact ⟨ao, cv, rfl, HO.out, hB⟩
        · have HX : Hid (R = plusT (K ++ [tx ((roomL b at_).take j)]) (at_ + (j + 2)) (lnL full f' (decide (0 < (K ++ [tx ((roomL b at_).take j)]).length)) (roomL b (at_ + (j + 2))))) := by
            rw [Hid, hR.out, lnL_next hc (fun k => h0 ⟨k.1, of_decide_eq_true k.2⟩), plusT_plusT, room_next, decide_eq_true (by rw [List.length_append]; simp)]
          have hts : (tx ((roomL b at_).take j)).size = j := by rw [tx_size, List.length_take, hrm]; omega
          by_cases hj0 : j = 0
          · have hem : (tx ((roomL b at_).take j)).toList.isEmpty = true := by
              subst hj0
              rw [List.take_zero, ByteArray.toList_eq]
              rfl
            have hki : ¬ (0 : Int) < (K.length : Int) := by omega
            clear hc hR hrm hts h0
            generalize tx ((roomL b at_).take j) = s at *
            have HCX := HC3
            clear HC3
            have own3 := HO.out.keep ((Below.refl _ _).alloc (Nat.le_refl _) (.cells #[.string s] 9))
            obtain ⟨v4, w4, r4, own4, B4⟩ := ownT_append own3 (one_txs wr s _ (Nat.lt_succ_self _)) (by have := HKL.out; simp; omega) (by have := hB.size; simp; omega)
            have hB4 : Below w.heap.size w w4 := (hB.alloc hB.size _).trans B4
            obtain ⟨a4, c4, rfl, _⟩ := own4.form
            have HO4 : Hid (OwnT w.heap.size w4 (.slice a4 (K ++ [s]).length c4) (K ++ [s])) := own4
            have HRN : Hid ((Builtin.append_ #[39, 39] 39 #[.slice ao K.length cv, .slice (some ⟨wr.heap.size, 0, none⟩) 1 1]).run Tryz.prog (wr.alloc (.cells #[.string s] 9)) = .ok (.slice a4 (K ++ [s]).length c4) w4) := r4
            have HLE : Hid ((K ++ [s]).length = K.length + 1) := by rw [Hid, List.length_append]; rfl
            clear own3 own4 B4 r4 HO
            obtain ⟨K2, hK2⟩ : ∃ K2, K2 = K ++ [s] := ⟨_, rfl⟩
            rw [← hK2] at HO4 HRN HLE HX
            clear hK2
            obtain ⟨L, hL⟩ : ∃ L, L = K2.length := ⟨_, rfl⟩
            rw [← hL] at HO4 HRN HLE
            have HL : Hid (L = K2.length) := hL
            clear hL
            go_wp2_with fail
            all_goals
              refine (HCX.out _ (by first | (have hx := hcell.out a (fun h => by omega); rw [show c - at_ = 0 by omega] at hx; exact hx) | exact hcell.out _ (fun _ => rfl) | exact hcell.out _ (fun h => if_neg (by omega)) | exact hcell.out _ (fun h => by omega))).mono ?_
              rintro e w1 ⟨rfl, rfl⟩
              go_wp2_with (at_builtin; refine wpList_append_run2 rfl _ _ 39 39 rfl _ _ _ w4 rfl rfl HRN.out ?_)
              go_roundw
              case rel => exact ⟨at_ + (j + 2), f', K2, a4, c4, by omega, by rw [← HL.out, HLE.out]; omega, by rw [HL.out], by go_num, HO4.out, by have := hf.out; rw [Hid]; omega, HX, hB4⟩
              case measure => simp [intOf]; omega
          · have hne : (tx ((roomL b at_).take j)).toList.isEmpty = false := isEmpty_of (by rw [hts]; exact hj0)
            clear hc hR hrm hts h0
            generalize tx ((roomL b at_).take j) = s at *
            have HCX := HC3
            clear HC3
            have own3 := HO.out.keep ((Below.refl _ _).alloc (Nat.le_refl _) (.cells #[.string s] 9))
            obtain ⟨v4, w4, r4, own4, B4⟩ := ownT_append own3 (one_txs wr s _ (Nat.lt_succ_self _)) (by have := HKL.out; simp; omega) (by have := hB.size; simp; omega)
            have hB4 : Below w.heap.size w w4 := (hB.alloc hB.size _).trans B4
            obtain ⟨a4, c4, rfl, _⟩ := own4.form
            have HO4 : Hid (OwnT w.heap.size w4 (.slice a4 (K ++ [s]).length c4) (K ++ [s])) := own4
            have HRN : Hid ((Builtin.append_ #[39, 39] 39 #[.slice ao K.length cv, .slice (some ⟨wr.heap.size, 0, none⟩) 1 1]).run Tryz.prog (wr.alloc (.cells #[.string s] 9)) = .ok (.slice a4 (K ++ [s]).length c4) w4) := r4
            have HLE : Hid ((K ++ [s]).length = K.length + 1) := by rw [Hid, List.length_append]; rfl
            clear own3 own4 B4 r4 HO
            obtain ⟨K2, hK2⟩ : ∃ K2, K2 = K ++ [s] := ⟨_, rfl⟩
            rw [← hK2] at HO4 HRN HLE HX
            clear hK2
            obtain ⟨L, hL⟩ : ∃ L, L = K2.length := ⟨_, rfl⟩
            rw [← hL] at HO4 HRN HLE
            have HL : Hid (L = K2.length) := hL
            clear hL
            go_wp2_with fail
            all_goals
              refine (HCX.out _ (by first | (have hx := hcell.out a (fun h => by omega); rw [show c - at_ = 0 by omega] at hx; exact hx) | exact hcell.out _ (fun _ => rfl) | exact hcell.out _ (fun h => if_neg (by omega)) | exact hcell.out _ (fun h => by omega))).mono ?_
              rintro e w1 ⟨rfl, rfl⟩
              go_wp2_with (at_builtin; refine wpList_append_run2 rfl _ _ 39 39 rfl _ _ _ w4 rfl rfl HRN.out ?_)
              go_roundw
              case rel => exact ⟨at_ + (j + 2), f', K2, a4, c4, by omega, by rw [← HL.out, HLE.out]; omega, by rw [HL.out], by go_num, HO4.out, by have := hf.out; rw [Hid]; omega, HX, hB4⟩
              case measure => simp [intOf]; omega
      · have HE0 : Hid (R = (K, 0, hst full er)) := by
          rw [Hid, hR.out, lnL_miss hc]
          unfold plusT
          simp
        have HCX : Hid (∀ v : Value, Src wr kb v (roomL b at_) → Calls Tryz.prog 88 #[v, .int .i64 2048] wr fun e w' => e = .returned (.tuple #[.string ⟨#[]⟩, .int .i64 0, .int .i64 er]) ∧ w' = wr) := fun v h => by
          have k := HC.out wr at_ v h
          rw [cutV_miss hc] at k
          exact k
        have her := cut_err 2048 _ 0 er (by rw [hrm]; omega) hc
        clear hc hR hrm hf
        rcases her with rfl | rfl
        · by_cases hfu : 2048 ≤ n
          · have HE : Hid (R = (K, 0, 431)) := by rw [Hid, HE0.out, HF.out, decide_eq_true hfu]; rfl
            have hfi : (2048 : Int) ≤ (n : Int) := by omega
            clear HE0
            go_wp2_with fail
            all_goals
            refine (HCX.out _ (by first | (have hx := hcell.out a (fun h => by omega); rw [show c - at_ = 0 by omega] at hx; exact hx) | exact hcell.out _ (fun _ => rfl) | exact hcell.out _ (fun h => if_neg (by omega)) | exact hcell.out _ (fun h => by omega))).mono ?_
            rintro e w1 ⟨rfl, rfl⟩
            go_wp2
            refine bodyPost_ret (v := .tuple #[.slice ao K.length cv, .int .i64 0, .int .i64 431]) (by simp [results, Tryz.results46, go_sem]) rfl ?_
            rw [HE.out]
            exact ⟨ao, cv, rfl, HO.out, hB⟩
          · exfalso; omega
        · have HE : Hid (R = (K, 0, 400)) := HE0.out
          clear HE0
          go_wp2_with fail
          all_goals
            refine (HCX.out _ (by first | (have hx := hcell.out a (fun h => by omega); rw [show c - at_ = 0 by omega] at hx; exact hx) | exact hcell.out _ (fun _ => rfl) | exact hcell.out _ (fun h => if_neg (by omega)) | exact hcell.out _ (fun h => by omega))).mono ?_
            rintro e w1 ⟨rfl, rfl⟩
            go_wp2
            refine bodyPost_ret (v := .tuple #[.slice ao K.length cv, .int .i64 0, .int .i64 400]) (by simp [results, Tryz.results46, go_sem]) rfl ?_
            rw [HE.out]
            exact ⟨ao, cv, rfl, HO.out, hB⟩
  · have hm2 : n = m := by omega
    subst hm2
    clear hm
    have hbi : ¬ (2048 : Int) < (n : Int) := by omega
    go_enter Tryz.func46, Tryz.ntmps46
    go_wp2_with fail
    go_loopw [5, 6] (fun vo va wr => ∃ (at_ f : Nat) (K : List ByteArray) (ao : Option Addr) (cv : Nat), at_ ≤ n ∧ K.length ≤ at_ ∧ vo = .slice ao K.length cv ∧ va = .int .i64 at_ ∧ OwnT w.heap.size wr vo K ∧ Hid (n - at_ < f) ∧ Hid (R = plusT K at_ (lnL full f (decide (0 < K.length)) (roomL b at_))) ∧ Below w.heap.size w wr) (fun _ va _ => n - (intOf va).toNat)
    case atStart => exact ⟨0, 2050, [], _, 0, by omega, Nat.zero_le _, rfl, rfl, OwnT.empty _ _ (Nat.le_refl _), by rw [Hid]; omega, hst0, C0⟩
    case round =>
      obtain ⟨at_, f, K, ao, cv, hat, hK, rfl, rfl, hO, hf, hR, hB⟩ := hrel
      clear C0 hst0
      have HO : Hid (OwnT w.heap.size wr (.slice ao K.length cv) K) := hO
      have HKL : Hid (K.length ≤ 16777216) := by rw [Hid]; omega
      clear hO
      have hrm := hroom.out at_
      have hcell : Hid (∀ a' : Option Addr, (at_ < c → a' = a.map (fun x => x.add at_)) → Src wr kb (.slice a' (n - at_) (c - at_)) (roomL b at_)) := fun a' h => HCE.out wr at_ a' hB hat h
      obtain ⟨f', rfl⟩ : ∃ f', f = f' + 1 := ⟨f - 1, by have := hf.out; omega⟩
      rcases cut_cases 2048 (roomL b at_) with ⟨j, hc, hl, _⟩ | ⟨er, hc⟩
      · rw [hrm] at hl
        have hj2 : ¬ ((j : Int) + 2) = 0 := by omega
        have hj3 : (((j : Int) + 2) == 0) = false := by simpa using hj2
        have HC3 : Hid (∀ v : Value, Src wr kb v (roomL b at_) → Calls Tryz.prog 88 #[v, .int .i64 2048] wr fun e w' => e = .returned (.tuple #[.string (tx ((roomL b at_).take j)), .int .i64 ((j : Int) + 2), .int .i64 0]) ∧ w' = wr) := fun v h => by
          have k := HC.out wr at_ v h
          rw [cutV_hit hc] at k
          exact k
        by_cases h0 : j = 0 ∧ 0 < K.length
        · obtain ⟨rfl, hKp⟩ := h0
          have hKi : (0 : Int) < (K.length : Int) := by omega
          have HE : Hid (R = (K, at_ + 2, 0)) := by
            rw [Hid, hR.out, decide_eq_true hKp, lnL_end hc]
            unfold plusT
            simp
          have HCX : Hid (∀ v : Value, Src wr kb v (roomL b at_) → Calls Tryz.prog 88 #[v, .int .i64 2048] wr fun e w' => e = .returned (.tuple #[.string ⟨#[]⟩, .int .i64 2, .int .i64 0]) ∧ w' = wr) := HC3.out
          clear HC3 hc hR hj2 hj3 hrm hf
          go_wp2_with fail
          all_goals
            refine (HCX.out _ (by first | (have hx := hcell.out a (fun h => by omega); rw [show c - at_ = 0 by omega] at hx; exact hx) | exact hcell.out _ (fun _ => rfl) | exact hcell.out _ (fun h => if_neg (by omega)) | exact hcell.out _ (fun h => by omega))).mono ?_
            rintro e w1 ⟨rfl, rfl⟩
            go_wp2
            refine bodyPost_ret (v := .tuple #[.slice ao K.length cv, .int .i64 ((at_ : Int) + 2), .int .i64 0]) (by simp [results, Tryz.results46, go_sem]) rfl ?_
            rw [HE.out]
            exact ⟨ao, cv, rfl, HO.out, hB⟩
        · have HX : Hid (R = plusT (K ++ [tx ((roomL b at_).take j)]) (at_ + (j + 2)) (lnL full f' (decide (0 < (K ++ [tx ((roomL b at_).take j)]).length)) (roomL b (at_ + (j + 2))))) := by
            rw [Hid, hR.out, lnL_next hc (fun k => h0 ⟨k.1, of_decide_eq_true k.2⟩), plusT_plusT, room_next, decide_eq_true (by rw [List.length_append]; simp)]
          have hts : (tx ((roomL b at_).take j)).size = j := by rw [tx_size, List.length_take, hrm]; omega
          by_cases hj0 : j = 0
          · have hem : (tx ((roomL b at_).take j)).toList.isEmpty = true := by
              subst hj0
              rw [List.take_zero, ByteArray.toList_eq]
              rfl
            have hki : ¬ (0 : Int) < (K.length : Int) := by omega
            clear hc hR hrm hts h0
            generalize tx ((roomL b at_).take j) = s at *
            have HCX := HC3
            clear HC3
            have own3 := HO.out.keep ((Below.refl _ _).alloc (Nat.le_refl _) (.cells #[.string s] 9))
            obtain ⟨v4, w4, r4, own4, B4⟩ := ownT_append own3 (one_txs wr s _ (Nat.lt_succ_self _)) (by have := HKL.out; simp; omega) (by have := hB.size; simp; omega)
            have hB4 : Below w.heap.size w w4 := (hB.alloc hB.size _).trans B4
            obtain ⟨a4, c4, rfl, _⟩ := own4.form
            have HO4 : Hid (OwnT w.heap.size w4 (.slice a4 (K ++ [s]).length c4) (K ++ [s])) := own4
            have HRN : Hid ((Builtin.append_ #[39, 39] 39 #[.slice ao K.length cv, .slice (some ⟨wr.heap.size, 0, none⟩) 1 1]).run Tryz.prog (wr.alloc (.cells #[.string s] 9)) = .ok (.slice a4 (K ++ [s]).length c4) w4) := r4
            have HLE : Hid ((K ++ [s]).length = K.length + 1) := by rw [Hid, List.length_append]; rfl
            clear own3 own4 B4 r4 HO
            obtain ⟨K2, hK2⟩ : ∃ K2, K2 = K ++ [s] := ⟨_, rfl⟩
            rw [← hK2] at HO4 HRN HLE HX
            clear hK2
            obtain ⟨L, hL⟩ : ∃ L, L = K2.length := ⟨_, rfl⟩
            rw [← hL] at HO4 HRN HLE
            have HL : Hid (L = K2.length) := hL
            clear hL
            go_wp2_with fail
            all_goals
              refine (HCX.out _ (by first | (have hx := hcell.out a (fun h => by omega); rw [show c - at_ = 0 by omega] at hx; exact hx) | exact hcell.out _ (fun _ => rfl) | exact hcell.out _ (fun h => if_neg (by omega)) | exact hcell.out _ (fun h => by omega))).mono ?_
              rintro e w1 ⟨rfl, rfl⟩
              go_wp2_with (at_builtin; refine wpList_append_run2 rfl _ _ 39 39 rfl _ _ _ w4 rfl rfl HRN.out ?_)
              go_roundw
              case rel => exact ⟨at_ + (j + 2), f', K2, a4, c4, by omega, by rw [← HL.out, HLE.out]; omega, by rw [HL.out], by go_num, HO4.out, by have := hf.out; rw [Hid]; omega, HX, hB4⟩
              case measure => simp [intOf]; omega
          · have hne : (tx ((roomL b at_).take j)).toList.isEmpty = false := isEmpty_of (by rw [hts]; exact hj0)
            clear hc hR hrm hts h0
            generalize tx ((roomL b at_).take j) = s at *
            have HCX := HC3
            clear HC3
            have own3 := HO.out.keep ((Below.refl _ _).alloc (Nat.le_refl _) (.cells #[.string s] 9))
            obtain ⟨v4, w4, r4, own4, B4⟩ := ownT_append own3 (one_txs wr s _ (Nat.lt_succ_self _)) (by have := HKL.out; simp; omega) (by have := hB.size; simp; omega)
            have hB4 : Below w.heap.size w w4 := (hB.alloc hB.size _).trans B4
            obtain ⟨a4, c4, rfl, _⟩ := own4.form
            have HO4 : Hid (OwnT w.heap.size w4 (.slice a4 (K ++ [s]).length c4) (K ++ [s])) := own4
            have HRN : Hid ((Builtin.append_ #[39, 39] 39 #[.slice ao K.length cv, .slice (some ⟨wr.heap.size, 0, none⟩) 1 1]).run Tryz.prog (wr.alloc (.cells #[.string s] 9)) = .ok (.slice a4 (K ++ [s]).length c4) w4) := r4
            have HLE : Hid ((K ++ [s]).length = K.length + 1) := by rw [Hid, List.length_append]; rfl
            clear own3 own4 B4 r4 HO
            obtain ⟨K2, hK2⟩ : ∃ K2, K2 = K ++ [s] := ⟨_, rfl⟩
            rw [← hK2] at HO4 HRN HLE HX
            clear hK2
            obtain ⟨L, hL⟩ : ∃ L, L = K2.length := ⟨_, rfl⟩
            rw [← hL] at HO4 HRN HLE
            have HL : Hid (L = K2.length) := hL
            clear hL
            go_wp2_with fail
            all_goals
              refine (HCX.out _ (by first | (have hx := hcell.out a (fun h => by omega); rw [show c - at_ = 0 by omega] at hx; exact hx) | exact hcell.out _ (fun _ => rfl) | exact hcell.out _ (fun h => if_neg (by omega)) | exact hcell.out _ (fun h => by omega))).mono ?_
              rintro e w1 ⟨rfl, rfl⟩
              go_wp2_with (at_builtin; refine wpList_append_run2 rfl _ _ 39 39 rfl _ _ _ w4 rfl rfl HRN.out ?_)
              go_roundw
              case rel => exact ⟨at_ + (j + 2), f', K2, a4, c4, by omega, by rw [← HL.out, HLE.out]; omega, by rw [HL.out], by go_num, HO4.out, by have := hf.out; rw [Hid]; omega, HX, hB4⟩
              case measure => simp [intOf]; omega
      · have HE0 : Hid (R = (K, 0, hst full er)) := by
          rw [Hid, hR.out, lnL_miss hc]
          unfold plusT
          simp
        have HCX : Hid (∀ v : Value, Src wr kb v (roomL b at_) → Calls Tryz.prog 88 #[v, .int .i64 2048] wr fun e w' => e = .returned (.tuple #[.string ⟨#[]⟩, .int .i64 0, .int .i64 er]) ∧ w' = wr) := fun v h => by
          have k := HC.out wr at_ v h
          rw [cutV_miss hc] at k
          exact k
        have her := cut_err 2048 _ 0 er (by rw [hrm]; omega) hc
        clear hc hR hrm hf
        rcases her with rfl | rfl
        · by_cases hfu : 2048 ≤ n
          · have HE : Hid (R = (K, 0, 431)) := by rw [Hid, HE0.out, HF.out, decide_eq_true hfu]; rfl
            have hfi : (2048 : Int) ≤ (n : Int) := by omega
            clear HE0
            go_wp2_with fail
            all_goals
            refine (HCX.out _ (by first | (have hx := hcell.out a (fun h => by omega); rw [show c - at_ = 0 by omega] at hx; exact hx) | exact hcell.out _ (fun _ => rfl) | exact hcell.out _ (fun h => if_neg (by omega)) | exact hcell.out _ (fun h => by omega))).mono ?_
            rintro e w1 ⟨rfl, rfl⟩
            go_wp2
            refine bodyPost_ret (v := .tuple #[.slice ao K.length cv, .int .i64 0, .int .i64 431]) (by simp [results, Tryz.results46, go_sem]) rfl ?_
            rw [HE.out]
            exact ⟨ao, cv, rfl, HO.out, hB⟩
          · have HE : Hid (R = (K, 0, 0)) := by rw [Hid, HE0.out, HF.out, decide_eq_false hfu]; rfl
            have hfi : ¬ (2048 : Int) ≤ (n : Int) := by omega
            clear HE0
            go_wp2_with fail
            all_goals
            refine (HCX.out _ (by first | (have hx := hcell.out a (fun h => by omega); rw [show c - at_ = 0 by omega] at hx; exact hx) | exact hcell.out _ (fun _ => rfl) | exact hcell.out _ (fun h => if_neg (by omega)) | exact hcell.out _ (fun h => by omega))).mono ?_
            rintro e w1 ⟨rfl, rfl⟩
            go_wp2
            refine bodyPost_ret (v := .tuple #[.slice ao K.length cv, .int .i64 0, .int .i64 0]) (by simp [results, Tryz.results46, go_sem]) rfl ?_
            rw [HE.out]
            exact ⟨ao, cv, rfl, HO.out, hB⟩
        · have HE : Hid (R = (K, 0, 400)) := HE0.out
          clear HE0
          go_wp2_with fail
          all_goals
            refine (HCX.out _ (by first | (have hx := hcell.out a (fun h => by omega); rw [show c - at_ = 0 by omega] at hx; exact hx) | exact hcell.out _ (fun _ => rfl) | exact hcell.out _ (fun h => if_neg (by omega)) | exact hcell.out _ (fun h => by omega))).mono ?_
            rintro e w1 ⟨rfl, rfl⟩
            go_wp2
            refine bodyPost_ret (v := .tuple #[.slice ao K.length cv, .int .i64 0, .int .i64 400]) (by simp [results, Tryz.results46, go_sem]) rfl ?_
            rw [HE.out]
            exact ⟨ao, cv, rfl, HO.out, hB⟩
end Go.Proofs.YtkdnckkdofoaoaaGreatDoor

/- The reference's fields. -/
namespace Go.Proofs.YtkdnckkdofoaoaaGreatDoor
open Go.ChangeShapes Go.WideShapes Go.ChangeAt Go.RowKit
set_option linter.unusedVariables false

set_option maxRecDepth 100000 in
set_option maxHeartbeats 4000000 in
theorem rfields_any (ss : List ByteArray) (a : Option Addr) (c : Nat) (w : World) (hT : Txs w.heap.size w (.slice a ss.length c) ss) (hz : ∀ s ∈ ss, s.size ≤ 2048) :
    Calls Tryz.prog 48 #[.slice a ss.length c] w fun e w' => ∃ ao cv, e = .returned (.tuple #[.slice ao (fldsP ss 40).1.length cv, .int .i64 (fldsP ss 40).2]) ∧ OwnF w.heap.size w' (.slice ao (fldsP ss 40).1.length cv) (fldsP ss 40).1 ∧ Below w.heap.size w w' := by
  have C0 : Below w.heap.size w (w.alloc (.cells #[] 41)) := (Below.refl _ _).alloc (Nat.le_refl _) _
  have hlm := hT.len
  unfold maxLen at hlm
  rcases Nat.eq_zero_or_pos ss.length with h0 | hp
  · have he : ss = [] := List.eq_nil_of_length_eq_zero h0
    subst he
    have e0 : fldsP [] 40 = ([], 0) := rfl
    rw [e0]
    clear hT hz hlm h0 e0
    go_enter Tryz.func48, Tryz.ntmps48
    go_wp2_with fail
    refine wp_loop_rounds 1 ?_
    rw [rounds_succ]
    go_wp2
    refine bodyPost_ret (v := .tuple #[.slice (some ⟨w.heap.size, 0, none⟩) 0 0, .int .i64 0]) (by simp [results, Tryz.results48, go_sem]) rfl ?_
    exact ⟨_, 0, rfl, OwnF.empty _ _ (Nat.le_refl _), C0⟩
  · obtain ⟨a', c', e, hnil, h1, h2, h3⟩ := hT
    obtain ⟨rfl, _, rfl⟩ := slice_inj e
    obtain ⟨g, off, rfl, hg, hc⟩ := h3 hp
    have HC : Hid (∀ (j : Nat) (hj : j < ss.length), w.cell? ⟨g, off + j, none⟩ = some (.string ss[j])) := hc
    have HZ : Hid (∀ s ∈ ss, s.size ≤ 2048) := hz
    have hln : ss.length ≤ 9223372036854775807 := by omega
    have hst0 : Hid (fldsP ss 40 = plusP [] (fldsP (ss.drop ([] : Fs).length) (40 - ([] : Fs).length))) := by
      rw [Hid, plusP_nil]
      · rfl
      · exact (fldsP_ok _ _).2.2.1
    generalize fldsP ss 40 = R at *
    clear e hnil h1 h2 h3 hc hz hlm
    go_enter Tryz.func48, Tryz.ntmps48
    go_wp2_with fail
    go_loopw [4, 5] (fun vo vi wr => ∃ (K : Fs) (ao : Option Addr) (cv : Nat), K.length ≤ ss.length ∧ K.length ≤ 40 ∧ vi = .int .i64 (K.length : Nat) ∧ vo = .slice ao K.length cv ∧ OwnF w.heap.size wr vo K ∧ Hid (R = plusP K (fldsP (ss.drop K.length) (40 - K.length))) ∧ Below w.heap.size w wr) (fun _ vi _ => ss.length - (intOf vi).toNat)
    case atStart => exact ⟨[], _, 0, Nat.zero_le _, Nat.zero_le _, rfl, rfl, OwnF.empty _ _ (Nat.le_refl _), hst0, C0⟩
    case round =>
      obtain ⟨K, ao, cv, hk, hk40, rfl, rfl, hO, hR, hB⟩ := hrel
      clear C0 hst0
      have HO : Hid (OwnF w.heap.size wr (.slice ao K.length cv) K) := hO
      clear hO
      by_cases hlt : K.length < ss.length
      · have hdr : ss.drop K.length = ss[K.length] :: ss.drop (K.length + 1) := List.drop_eq_getElem_cons hlt
        have hsz : ss[K.length].size ≤ 2048 := HZ.out _ (List.getElem_mem hlt)
        have hc1 := (hB.cell (p := ⟨g, off + K.length, none⟩) hg).trans (HC.out K.length hlt)
        generalize ss[K.length] = s at *
        have HPr : Hid (Calls Tryz.prog 91 #[.string s] wr fun e w' => e = .returned (.tuple #[.agg #[.string (prs s).1, .string (prs s).2.1], .bool (decide ((prs s).2.2 = 0))]) ∧ Below wr.heap.size wr w') := rparse_any s wr (by omega)
        by_cases hpe : (prs s).2.2 = 0
        · rw [decide_eq_true hpe] at HPr
          by_cases h40 : K.length = 40
          · have HE : Hid (R = ([], 431)) := by
              rw [Hid, hR.out, hdr, h40, fldsP_many hpe, plusP_err _ _ (by decide)]
            have hAL : ((K.length : Nat) : Int) = 40 := by omega
            clear hR hpe hsz hdr
            generalize prs s = pr at *
            obtain ⟨p1, p2, p3⟩ := pr
            simp only at HPr
            generalize K.length = kl at *
            subst h40
            go_wp2_with fail
            refine HPr.out.mono ?_
            rintro e w4 ⟨rfl, B4⟩
            have B5 := (hB.trans (B4.mono hB.size)).alloc (hB.trans (B4.mono hB.size)).size (.cells #[.string p1, .string p2] 41)
            clear HPr B4 hB
            go_wp2
            refine bodyPost_ret (v := .tuple #[.slice none 0 0, .int .i64 431]) (by simp [results, Tryz.results48, go_sem]) rfl ?_
            rw [HE.out]
            exact ⟨none, 0, rfl, OwnF.nil _ _, B5⟩
          · have HE : Hid (R = plusP (K ++ [((prs s).1, (prs s).2.1)]) (fldsP (ss.drop (K.length + 1)) (40 - (K.length + 1)))) := by
              obtain ⟨r, hr⟩ : ∃ r, 40 - K.length = r + 1 := ⟨40 - K.length - 1, by omega⟩
              have e1 : 40 - (K.length + 1) = r := by omega
              rw [Hid, hR.out, hdr, hr, fldsP_next hpe, plusP_plusP, e1]
            have hAL : ¬ ((K.length : Nat) : Int) = 40 := by omega
            have hAL2 : (((K.length : Nat) : Int) == 40) = false := by simpa using hAL
            clear hR hpe hsz hdr
            generalize prs s = pr at *
            obtain ⟨p1, p2, p3⟩ := pr
            simp only at HPr HE
            have HAC : Hid (K.length + 1 ≤ 40) := by rw [Hid]; omega
            have HHB : Hid _ := hB
            clear h40 hk40
            generalize hal : K.length = al at *
            have HAL3 : Hid (K.length = al) := hal
            clear hal
            go_wp2_with fail
            refine HPr.out.mono ?_
            rintro e w4 ⟨rfl, B4⟩
            have D4 := B4.alloc B4.size (.cells #[.string p1, .string p2] 41)
            have g4 : (w4.alloc (.cells #[.string p1, .string p2] 41)).heap[w4.heap.size]? = some (.cells #[.string p1, .string p2] 41) := tblk_new _ _
            have c0 : (w4.alloc (.cells #[.string p1, .string p2] 41)).cell? ⟨w4.heap.size, 0, none⟩ = some (.string p1) := tblk_cell g4 rfl
            have c1 : (w4.alloc (.cells #[.string p1, .string p2] 41)).cell? ⟨w4.heap.size, 1, none⟩ = some (.string p2) := tblk_cell g4 rfl
            have own4 := HO.out.keep D4
            have B5 := HHB.out.trans (D4.mono HHB.out.size)
            clear g4 B4 D4 HPr HO hB hc1
            have own5 := own4.keep ((Below.refl _ _).alloc (Nat.le_refl _) (.cells #[.string p1, .string p2] 41))
            obtain ⟨v6, w6, r6, own6, B6⟩ := ownF_append own5 (fds_new (w4.alloc (.cells #[.string p1, .string p2] 41)) p1 p2) (by have := HAC.out; have := HAL3.out; simp; omega) (Nat.le_trans B5.size (by simp))
            have e5 : (w4.alloc (.cells #[.string p1, .string p2] 41)).heap.size = w4.heap.size + 1 := by simp
            have B7 : Below w.heap.size w w6 := (B5.alloc B5.size _).trans B6
            obtain ⟨a6, c6, rfl, _⟩ := own6.form
            have HO6 : Hid (OwnF w.heap.size w6 (.slice a6 (K ++ [(p1, p2)]).length c6) (K ++ [(p1, p2)])) := own6
            have HL : Hid ((K ++ [(p1, p2)]).length = al + 1) := by rw [Hid, List.length_append, HAL3.out]; rfl
            obtain ⟨L, hL⟩ : ∃ L, L = (K ++ [(p1, p2)]).length := ⟨_, rfl⟩
            have HR6 : Hid ((Builtin.append_ #[24, 24] 24 #[.slice ao al cv, .slice (some ⟨w4.heap.size + 1, 0, none⟩) 1 1]).run Tryz.prog ((w4.alloc (.cells #[.string p1, .string p2] 41)).alloc (.cells #[.string p1, .string p2] 41)) = .ok (.slice a6 L c6) w6) := by rw [Hid, hL, ← e5]; exact r6
            have HLL : Hid (L = (K ++ [(p1, p2)]).length) := hL
            have HB7 : Hid _ := B7
            clear own4 own5 own6 B5 B6 B7 r6 hL e5
            go_wp2_with (at_builtin; refine wpList_append_run2 rfl _ _ 24 24 rfl _ _ _ w6 rfl rfl HR6.out ?_)
            go_roundw
            case rel => exact ⟨K ++ [(p1, p2)], a6, c6, by have := HL.out; omega, by have := HL.out; have := HAC.out; have := HAL3.out; omega, by rw [HL.out]; go_num, by rw [HLL.out], (by rw [HLL.out]; exact HO6.out), (by rw [HL.out]; exact HE), HB7.out⟩
            case measure => simp [intOf]; omega
        · have HE : Hid (R = ([], 400)) := by
            rw [Hid, hR.out, hdr, fldsP_bad hpe, plusP_err _ _ (by decide)]
          rw [decide_eq_false hpe] at HPr
          clear hR hpe hsz hdr
          generalize prs s = pr at *
          obtain ⟨p1, p2, p3⟩ := pr
          simp only at HPr
          go_wp2_with fail
          refine HPr.out.mono ?_
          rintro e w4 ⟨rfl, B4⟩
          have B5 := (hB.trans (B4.mono hB.size)).alloc (hB.trans (B4.mono hB.size)).size (.cells #[.string p1, .string p2] 41)
          clear HPr B4 hB
          go_wp2
          refine bodyPost_ret (v := .tuple #[.slice none 0 0, .int .i64 400]) (by simp [results, Tryz.results48, go_sem]) rfl ?_
          rw [HE.out]
          exact ⟨none, 0, rfl, OwnF.nil _ _, B5⟩
      · have hk' : K.length = ss.length := by omega
        have HE : Hid (R = (K, 0)) := by
          rw [Hid, hR.out, hk', List.drop_length]
          unfold plusP fldsP
          simp
        clear hR
        go_wp2
        refine bodyPost_ret (v := .tuple #[.slice ao K.length cv, .int .i64 0]) (by simp [results, Tryz.results48, go_sem]) rfl ?_
        rw [HE.out]
        exact ⟨ao, cv, rfl, HO.out, hB⟩
end Go.Proofs.YtkdnckkdofoaoaaGreatDoor

/- The reference's Body. -/
namespace Go.Proofs.YtkdnckkdofoaoaaGreatDoor
open Go.ChangeShapes Go.WideShapes Go.ChangeAt Go.RowKit
set_option linter.unusedVariables false

/-- A body that is told: its bytes, how many it takes, whether it is whole, the error. -/
def rbodyP (l : List UInt8) (sz : Nat) (coded : Bool) : List UInt8 × Nat × Bool × Int :=
  if coded = true then ((decR 4096 l).1, (decR 4096 l).2.1, decide (0 < (decR 4096 l).2.1), (decR 4096 l).2.2)
  else if l.length < sz then ([], 0, false, 0) else (l.take sz, sz, true, 0)
def BodyR (w : World) (X : List UInt8 × Nat × Bool × Int) (e : Ending) (w' : World) : Prop := ∃ v, e = .returned (.tuple #[v, .int .i64 (X.2.1 : Nat), .bool X.2.2.1, .int .i64 X.2.2.2]) ∧ Own w.heap.size w' v X.1 ∧ Below w.heap.size w w'
theorem src_nil (W : World) (k : Nat) (a : Option Addr) : Src W k (.slice a 0 0) [] := ⟨a, 0, rfl, Nat.le_refl _, Nat.zero_le _, fun h => absurd h (Nat.lt_irrefl _)⟩

set_option maxRecDepth 100000 in
set_option maxHeartbeats 4000000 in
theorem rbody_any (l : List UInt8) (kb c : Nat) (a : Option Addr) (sz : Nat) (coded : Bool) (w : World) (hs : Src w kb (.slice a l.length c) l) (hk : 0 < l.length → kb < w.heap.size) (hlen : l.length ≤ 1000000) (hsz : sz ≤ 4096) :
    Calls Tryz.prog 33 #[.slice a l.length c, .int .i64 (sz : Nat), .bool coded] w (BodyR w (rbodyP l sz coded)) := by
  have hln := hs.len
  cases coded
  · by_cases hlt : l.length < sz
    · have HE : Hid (rbodyP l sz false = ([], 0, false, 0)) := by unfold rbodyP; rw [Hid, if_neg (by decide), if_pos hlt]
      have hli : (l.length : Int) < (sz : Int) := by omega
      clear hs hk hln
      generalize l.length = n at *
      go_enter Tryz.func33, Tryz.ntmps33
      go_wp2
      refine bodyPost_ret (v := .tuple #[.slice none 0 0, .int .i64 0, .bool false, .int .i64 0]) (by simp [results, Tryz.results33, go_sem]) rfl ?_
      rw [HE.out]
      exact ⟨_, rfl, Own.nil _ _, Below.refl _ _⟩
    · have HE : Hid (rbodyP l sz false = (l.take sz, sz, true, 0)) := by unfold rbodyP; rw [Hid, if_neg (by decide), if_neg hlt]
      have hli : ¬ (l.length : Int) < (sz : Int) := by omega
      have C0 : Below w.heap.size w (w.alloc (.cells #[] 5)) := (Below.refl _ _).alloc (Nat.le_refl _) _
      have S1 : Src w kb (.slice a sz c) (l.take sz) := hs.take (by omega)
      have hl2 : (l.take sz).length = sz := by rw [List.length_take]; omega
      have HJ : Hid (Calls Tryz.prog 50 #[.slice a sz c, .slice (some ⟨w.heap.size, 0, none⟩) 0 0] (w.alloc (.cells #[] 5)) fun e w' => ∃ v', e = .returned v' ∧ Own w.heap.size w' v' (l.take sz) ∧ Below w.heap.size w w') := by
        refine (join_any (l.take sz) [] kb w.heap.size (.slice a sz c) _ _ (S1.keep (fun h => hk (by rw [hl2] at h; omega)) C0) (fun h => Nat.lt_of_lt_of_le (hk (by rw [hl2] at h; omega)) C0.size) (src_nil _ _ _) (fun h => absurd h (Nat.lt_irrefl _)) (by rw [hl2]; simp; omega)).mono ?_
        rintro e w' ⟨v', he, hO, hB⟩
        rw [List.append_nil] at hO
        exact ⟨v', he, hO.mono C0.size, C0.trans (hB.mono C0.size)⟩
      have hc2 : l.length ≤ c := hln.2.1
      have hc3 : c ≤ maxLen := hln.2.2
      unfold maxLen at hc3
      clear hs hk S1 C0 hl2 hln
      generalize l.length = n at *
      go_enter Tryz.func33, Tryz.ntmps33
      go_wp2_with fail
      refine HJ.out.mono ?_
      rintro e w1 ⟨v1, rfl, O1, B1⟩
      go_wp2
      refine bodyPost_ret (v := .tuple #[v1, .int .i64 (sz : Nat), .bool true, .int .i64 0]) (by simp [results, Tryz.results33, go_sem]) rfl ?_
      rw [HE.out]
      exact ⟨_, rfl, O1, B1⟩
  · have HE : Hid (rbodyP l sz true = ((decR 4096 l).1, (decR 4096 l).2.1, decide (0 < (decR 4096 l).2.1), (decR 4096 l).2.2)) := by unfold rbodyP; rw [Hid, if_pos rfl]
    have HD : Hid (Calls Tryz.prog 66 #[.slice a l.length c, .int .i64 4096] w (DecQ w (decR 4096 l))) := rdecode_nat l kb _ 4096 (by decide) w hs hk hlen
    clear hs hk hln
    generalize l.length = n at *
    generalize decR 4096 l = X at *
    obtain ⟨X1, X2, X3⟩ := X
    simp only at HE
    go_enter Tryz.func33, Tryz.ntmps33
    go_wp2_with fail
    refine HD.out.mono ?_
    rintro e w1 ⟨v1, rfl, O1, B1⟩
    go_wp2
    refine bodyPost_ret (v := .tuple #[v1, .int .i64 (X2 : Nat), .bool (decide ((0 : Int) < (X2 : Int))), .int .i64 X3]) (by simp [results, Tryz.results33, go_sem]) rfl ?_
    rw [HE.out, int_pos]
    exact ⟨_, rfl, O1, B1⟩

theorem decL_st : ∀ (f m : Nat) (l : List UInt8), ¬ (decL f m l).2.1 = 0 → (decL f m l).2.2 = 0 := by
  intro f m l h
  cases f with
  | zero => exact absurd rfl h
  | succ f =>
    unfold decL at h ⊢
    split at h
    · exact absurd rfl h
    · rename_i k1
      rw [if_neg k1]
      split at h
      · rename_i k2
        rw [if_pos k2]
        unfold plusD at h ⊢
        split at h
        · exact absurd rfl h
        · rename_i k3; rw [if_neg k3]
      · rename_i k2
        rw [if_neg k2]
        unfold plusD at h ⊢
        split at h
        · exact absurd rfl h
        · rename_i k3; rw [if_neg k3]
/-- The body behind a head, as the reference has it. -/
theorem body_ref (b : List UInt8) (n sz : Nat) (coded : Bool) (hn : 0 < n) (hl : n ≤ b.length) : bodyQ b n (sz : Int) coded = if (rbodyP (b.drop n) sz coded).2.2.1 = true then ((rbodyP (b.drop n) sz coded).1, n + (rbodyP (b.drop n) sz coded).2.1, 0) else ([], 0, (rbodyP (b.drop n) sz coded).2.2.2) := by
  unfold bodyQ rbodyP
  cases coded
  · simp only [Bool.false_eq_true, if_false, List.length_drop]
    by_cases h : b.length - n < sz
    · rw [if_pos (show ((b.length - n : Nat) : Int) < (sz : Int) by omega), if_pos h]; rfl
    · rw [if_neg (show ¬ ((b.length - n : Nat) : Int) < (sz : Int) by omega), if_neg h]; rfl
  · simp only [if_true]
    by_cases h : (decR 4096 (b.drop n)).2.1 = 0
    · rw [if_pos h, decide_eq_false (by omega), if_neg (by decide)]
    · rw [if_neg h, decide_eq_true (by omega), if_pos rfl]
theorem body_whole (l : List UInt8) (sz : Nat) (coded : Bool) (h : (rbodyP l sz coded).2.2.1 = true) : (rbodyP l sz coded).2.2.2 = 0 := by
  unfold rbodyP at h ⊢
  cases coded
  · simp only [Bool.false_eq_true, if_false]
    split <;> rfl
  · simp only [if_true] at h ⊢
    exact decL_st _ _ _ (by have := of_decide_eq_true h; unfold decR at this; omega)
end Go.Proofs.YtkdnckkdofoaoaaGreatDoor
