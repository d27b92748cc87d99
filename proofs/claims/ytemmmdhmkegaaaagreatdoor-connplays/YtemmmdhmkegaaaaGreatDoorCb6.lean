/- Texts that the proof leans on, one behind the other: JoinA RqA LinBr RqB RDgA ByAl SgnC SgnD RefA SgnE FldO FldI FldB RqC RtgA LtD LnT LbR LrA LqA LqB LqC LqD -/
import Derived.Test.YtemmmdhmkegaaaaGreatDoorCb2
import Derived.Test.YtemmmdhmkegaaaaGreatDoorCb4
import Derived.Test.YtemmmdhmkegaaaaGreatDoorCb3
import Derived.Deep.QuietTactic
import Derived.BigQuiet
import Derived.Deep.RegionHeld3
import Derived.Lib.ItoaNum
/- Join: two lists, one behind the other. -/
namespace Go.Proofs.YtemmmdhmkegaaaaGreatDoor
open Go.RowKit
set_option linter.unusedVariables false

set_option maxRecDepth 100000 in
set_option maxHeartbeats 4000000 in
theorem join_any (X Y : List UInt8) (k1 k2 : Nat) (v1 v2 : Value) (w : World) (h1 : Src w k1 v1 X) (hk1 : 0 < X.length → k1 < w.heap.size) (h2 : Src w k2 v2 Y) (hk2 : 0 < Y.length → k2 < w.heap.size) (hmax : X.length + Y.length ≤ 140737488355328) :
    Calls Tryz.prog 44 #[v1, v2] w fun e w' => ∃ v', e = .returned v' ∧ Own w.heap.size w' v' (X ++ Y) ∧ Below w.heap.size w w' := by
  have HX : Hid (Src w k1 v1 X) := h1
  have HY : Hid (Src w k2 v2 Y) := h2
  obtain ⟨a1, c1, rfl, p1, q1, f1⟩ := h1
  obtain ⟨a2, c2, rfl, p2, q2, f2⟩ := h2
  have F1 : Hid (0 < X.length → ∃ off, a1 = some ⟨k1, off, none⟩ ∧ ∀ (j : Nat) (hj : j < X.length), w.cell? ⟨k1, off + j, none⟩ = some (bv X[j])) := f1
  have F2 : Hid (0 < Y.length → ∃ off, a2 = some ⟨k2, off, none⟩ ∧ ∀ (j : Nat) (hj : j < Y.length), w.cell? ⟨k2, off + j, none⟩ = some (bv Y[j])) := f2
  obtain ⟨n, hn⟩ : ∃ n, n = X.length := ⟨_, rfl⟩
  obtain ⟨m, hm⟩ : ∃ m, m = Y.length := ⟨_, rfl⟩
  rw [← hn, ← hm]
  rw [← hn] at hmax hk1
  rw [← hm] at hmax hk2
  have HN : Hid (n = X.length) := hn
  have HM : Hid (m = Y.length) := hm
  have HK1 : Hid (0 < n → k1 < w.heap.size) := hk1
  have HK2 : Hid (0 < m → k2 < w.heap.size) := hk2
  clear f1 f2 hn hm p1 q1 p2 q2 hk1 hk2 HX HY
  have O0 := Own.empty w.heap.size w (Nat.le_refl _)
  have B0 : Below w.heap.size w (w.alloc (.cells #[] 5)) := (Below.refl _ _).alloc (Nat.le_refl _) _
  go_enter Tryz.func44, Tryz.ntmps44
  go_wp2_with fail
  go_loopw [5, 6] (fun v5 vi wr => ∃ k : Nat, k ≤ n ∧ vi = .int .i64 k ∧ Hid (Own w.heap.size wr v5 (X.take k)) ∧ Below w.heap.size w wr) (fun _ vi _ => n - (intOf vi).toNat)
  case atStart => exact ⟨0, Nat.zero_le _, rfl, (by rw [List.take_zero]; exact O0), B0⟩
  case round =>
    obtain ⟨k, hk, rfl, hO, hB⟩ := hrel
    clear O0 B0
    by_cases hlt : k < n
    · have hlX : k < X.length := by have := HN.out; omega
      obtain ⟨off, rfl, hc⟩ := F1.out (by omega)
      have hcell : wr.cell? ⟨k1, off + k, none⟩ = some (.int .u8 (X[k].toNat : Int)) := (hB.cell (p := ⟨k1, off + k, none⟩) (HK1.out (by omega))).trans (hc k hlX)
      have BA : Below wr.heap.size wr (wr.alloc (.cells #[.int .u8 (X[k].toNat : Int)] 5)) := (Below.refl _ _).alloc (Nat.le_refl _) _
      have hsn : X.take (k + 1) = X.take k ++ [X[k]] := List.take_succ_eq_append_getElem hlX
      obtain ⟨v3, w3, r3, O3, B3⟩ := own_append (hO.out.keep BA) (lit_src wr [X[k]] 1 #[.int .u8 (X[k].toNat : Int)] (0, 0) rfl (by decide) rfl) (fun e => by cases e) (by rw [List.length_take]; show _ + 1 ≤ _; omega) (Nat.le_trans hB.size BA.size)
      rw [← hsn] at O3
      have HO3 : Hid (Own w.heap.size w3 v3 (X.take (k + 1))) := O3
      have C3 := (hB.trans (BA.mono hB.size)).trans B3
      clear O3 B3 BA hsn hc hO
      generalize (X[k].toNat : Int) = z at *
      go_wp2_with (at_builtin; refine wpList_append_run2 rfl _ _ 31 31 rfl _ _ _ w3 rfl rfl r3 ?_)
      go_roundw
      case rel => exact ⟨k + 1, by omega, by go_num, HO3, C3⟩
      case measure => simp [intOf]; omega
    · have hO2 := hO.out
      rw [List.take_of_length_le (by have := HN.out; omega)] at hO2
      have HB1 : Hid (Below w.heap.size w wr) := hB
      clear hO hB
      go_wp2_with fail
      go_loopw [5, 7] (fun v5 vi wx => ∃ j : Nat, j ≤ m ∧ vi = .int .i64 j ∧ Hid (Own w.heap.size wx v5 (X ++ Y.take j)) ∧ Below w.heap.size w wx) (fun _ vi _ => m - (intOf vi).toNat)
      case atStart => exact ⟨0, Nat.zero_le _, rfl, (by rw [List.take_zero, List.append_nil]; exact hO2), HB1.out⟩
      case round =>
        obtain ⟨j, hj, rfl, hO, hB⟩ := hrel
        clear hO2 HB1
        by_cases hjm : j < m
        · have hlY : j < Y.length := by have := HM.out; omega
          obtain ⟨off, rfl, hc⟩ := F2.out (by omega)
          have hcell := (hB.cell (p := ⟨k2, off + j, none⟩) (HK2.out (by omega))).trans (hc j hlY)
          have BA := fun W : World => (Below.refl W.heap.size W).alloc (Nat.le_refl _) (.cells #[.int .u8 (Y[j].toNat : Int)] 5)
          have hsn : Y.take (j + 1) = Y.take j ++ [Y[j]] := List.take_succ_eq_append_getElem hlY
          obtain ⟨v3, w3, r3, O3, B3⟩ := own_append (hO.out.keep (BA _)) (lit_src _ [Y[j]] 1 #[.int .u8 (Y[j].toNat : Int)] (0, 0) rfl (by decide) rfl) (fun e => by cases e) (by rw [List.length_append, List.length_take]; have := HN.out; show _ + 1 ≤ _; omega) (Nat.le_trans hB.size (BA _).size)
          rw [List.append_assoc, ← hsn] at O3
          have HO3 : Hid (Own w.heap.size w3 v3 (X ++ Y.take (j + 1))) := O3
          have C3 := (hB.trans ((BA _).mono hB.size)).trans B3
          clear O3 B3 BA hsn hc hO
          unfold bv at hcell
          generalize (Y[j].toNat : Int) = z at *
          go_wp2_with (at_builtin; refine wpList_append_run2 rfl _ _ 31 31 rfl _ _ _ w3 rfl rfl r3 ?_)
          go_roundw
          case rel => exact ⟨j + 1, by omega, by go_num, HO3, C3⟩
          case measure => simp [intOf]; omega
        · have h := hO.out
          rw [List.take_of_length_le (by have := HM.out; omega)] at h
          clear hO
          go_wp2
          go_ret
          exact ⟨_, rfl, h, hB⟩
end Go.Proofs.YtemmmdhmkegaaaaGreatDoor

/- The reference's reading of heads, plain: lines first, then what they say. -/
namespace Go.Proofs.YtemmmdhmkegaaaaGreatDoor
open Go.RowKit
set_option linter.unusedVariables false

theorem cut_err (m : Nat) : ∀ (l : List UInt8) (i : Nat) (e : Int), i + l.length ≤ m → cutAt m i l = (none, e) → e = 0 ∨ e = 20
  | [], i, e, _, h => by
    rw [cutAt] at h
    exact Or.inl (Prod.mk.inj h).2.symm
  | c :: l, i, e, hl, h => by
    rw [cutAt] at h
    rw [List.length_cons] at hl
    by_cases h1 : c = 10
    · rw [if_pos h1] at h; exact Or.inr (Prod.mk.inj h).2.symm
    · rw [if_neg h1] at h
      by_cases h2 : c = 13
      · rw [if_pos h2] at h
        by_cases h3 : l.head? = none
        · rw [if_pos h3] at h; exact Or.inl (Prod.mk.inj h).2.symm
        · rw [if_neg h3] at h
          by_cases h4 : l.head? = some 10
          · rw [if_pos h4] at h; cases (Prod.mk.inj h).1
          · rw [if_neg h4] at h; exact Or.inr (Prod.mk.inj h).2.symm
      · rw [if_neg h2, if_neg (by omega)] at h
        exact cut_err m l (i + 1) e (by omega) h

def plusT (acc : List ByteArray) (at_ : Nat) (r : List ByteArray × Nat × Int) : List ByteArray × Nat × Int := (acc ++ r.1, (if r.2.1 = 0 then 0 else at_ + r.2.1), r.2.2)
def lnL (full : Bool) : Nat → Bool → List UInt8 → List ByteArray × Nat × Int
  | 0, _, _ => ([], 0, 0)
  | f + 1, ne, l => match cutAt 2048 0 l with
    | (none, e) => ([], 0, hst full e)
    | (some i, _) => if i = 0 ∧ ne = true then ([], 2, 0) else plusT [tx (l.take i)] (i + 2) (lnL full f true (l.drop (i + 2)))
theorem lnL_miss {full : Bool} {f : Nat} {ne : Bool} {l : List UInt8} {e : Int} (h : cutAt 2048 0 l = (none, e)) : lnL full (f + 1) ne l = ([], 0, hst full e) := by
  unfold lnL; rw [h]
theorem lnL_end {full : Bool} {f : Nat} {l : List UInt8} {e : Int} (h : cutAt 2048 0 l = (some 0, e)) : lnL full (f + 1) true l = ([], 2, 0) := by
  unfold lnL; rw [h]; rfl
theorem lnL_next {full : Bool} {f i : Nat} {ne : Bool} {l : List UInt8} {e : Int} (h : cutAt 2048 0 l = (some i, e)) (hn : ¬ (i = 0 ∧ ne = true)) : lnL full (f + 1) ne l = plusT [tx (l.take i)] (i + 2) (lnL full f true (l.drop (i + 2))) := by
  conv => lhs; unfold lnL
  rw [h]; simp only; rw [if_neg hn]
theorem plusT_plusT (a b : List ByteArray) (i j : Nat) (r : List ByteArray × Nat × Int) : plusT a i (plusT b j r) = plusT (a ++ b) (i + j) r := by
  unfold plusT
  by_cases h : r.2.1 = 0
  · simp only [if_pos h, List.append_assoc]; rfl
  · simp only [if_neg h, List.append_assoc]
    rw [if_neg (by omega), Nat.add_assoc]

def fldsP : List ByteArray → Nat → Fs × Int
  | [], _ => ([], 0)
  | s :: ss, r => if (prs s).2.2 = 0 then (match r with | 0 => ([], 431) | r + 1 => if (fldsP ss r).2 = 0 then (((prs s).1, (prs s).2.1) :: (fldsP ss r).1, 0) else ([], (fldsP ss r).2)) else ([], 400)
def plusP (acc : Fs) (q : Fs × Int) : Fs × Int := if q.2 = 0 then (acc ++ q.1, 0) else ([], q.2)
theorem fldsP_bad {s : ByteArray} {ss : List ByteArray} {r : Nat} (h : ¬ (prs s).2.2 = 0) : fldsP (s :: ss) r = ([], 400) := by
  unfold fldsP; rw [if_neg h]
theorem fldsP_many {s : ByteArray} {ss : List ByteArray} (h : (prs s).2.2 = 0) : fldsP (s :: ss) 0 = ([], 431) := by
  unfold fldsP; rw [if_pos h]
theorem fldsP_next {s : ByteArray} {ss : List ByteArray} {r : Nat} (h : (prs s).2.2 = 0) : fldsP (s :: ss) (r + 1) = plusP [((prs s).1, (prs s).2.1)] (fldsP ss r) := by
  conv => lhs; unfold fldsP
  rw [if_pos h]
  rfl
theorem plusP_plusP (a b : Fs) (q : Fs × Int) : plusP a (plusP b q) = plusP (a ++ b) q := by
  unfold plusP
  by_cases h : q.2 = 0
  · simp only [if_pos h, List.append_assoc]; rfl
  · simp only [if_neg h]
theorem plusP_err (a : Fs) (e : Int) (h : ¬ e = 0) : plusP a ([], e) = ([], e) := by unfold plusP; rw [if_neg h]
theorem plusP_nil (q : Fs × Int) (h : q.2 = 0 ∨ q.1 = []) : plusP [] q = q := by
  unfold plusP
  obtain ⟨a, e⟩ := q
  by_cases h0 : e = 0
  · subst h0; rfl
  · simp only [if_neg h0]
    rcases h with h | h
    · exact absurd h h0
    · simp only at h; rw [h]
theorem fldsP_ok : ∀ (ss : List ByteArray) (r : Nat), (fldsP ss r).1.length ≤ r ∧ FBd 1000 (fldsP ss r).1 ∧ ((fldsP ss r).2 = 0 ∨ (fldsP ss r).1 = []) ∧ (fldsP ss r).1.length ≤ ss.length
  | [], r => ⟨Nat.zero_le _, (fun f hf => by cases hf), Or.inl rfl, Nat.le_refl _⟩
  | s :: ss, r => by
    by_cases h : (prs s).2.2 = 0
    · cases r with
      | zero => rw [fldsP_many h]; exact ⟨Nat.zero_le _, (fun f hf => by cases hf), Or.inr rfl, Nat.zero_le _⟩
      | succ r =>
        rw [fldsP_next h]
        have k := fldsP_ok ss r
        unfold plusP
        by_cases h2 : (fldsP ss r).2 = 0
        · rw [if_pos h2]
          refine ⟨?_, ?_, Or.inl rfl, ?_⟩
          · simp only [List.length_append, List.length_cons, List.length_nil]; omega
          · intro g hg
            rcases List.mem_append.1 hg with q | q
            · rw [List.mem_singleton.1 q]; exact prs_bd s
            · exact k.2.1 g q
          · simp only [List.length_append, List.length_cons, List.length_nil]; omega
        · rw [if_neg h2]; exact ⟨Nat.zero_le _, (fun f hf => by cases hf), Or.inr rfl, Nat.zero_le _⟩
    · rw [fldsP_bad h]; exact ⟨Nat.zero_le _, (fun f hf => by cases hf), Or.inr rfl, Nat.zero_le _⟩

def saidP (F : Fs × Int) (n : Nat) (code : Int) : Fs × Nat × Int := if F.2 = 0 then (if n = 0 then ([], 0, code) else (F.1, n, 0)) else ([], 0, F.2)
theorem fldL_lines (full : Bool) : ∀ (f : Nat) (l : List UInt8) (r : Nat), l.length < f → fldL full r l = saidP (fldsP (lnL full f true l).1 r) (lnL full f true l).2.1 (lnL full f true l).2.2 := by
  intro f
  induction f with
  | zero => intro l r h; exact absurd h (Nat.not_lt_zero _)
  | succ f ih =>
    intro l r hf
    rcases cut_cases 2048 l with ⟨i, hc, hl, _⟩ | ⟨e, hc⟩
    · by_cases hi : i = 0
      · subst hi
        rw [fldL_end hc, lnL_end hc]; rfl
      · rw [lnL_next hc (fun h => hi h.1)]
        have hlen : (l.drop (i + 2)).length < f := by rw [List.length_drop]; omega
        have IH := fun r => ih (l.drop (i + 2)) r hlen
        generalize lnL full f true (l.drop (i + 2)) = X at *
        obtain ⟨ss, n, code⟩ := X
        have e1 : (plusT [tx (l.take i)] (i + 2) (ss, n, code)).1 = tx (l.take i) :: ss := rfl
        have e2 : (plusT [tx (l.take i)] (i + 2) (ss, n, code)).2.1 = if n = 0 then 0 else i + 2 + n := rfl
        have e3 : (plusT [tx (l.take i)] (i + 2) (ss, n, code)).2.2 = code := rfl
        rw [e1, e2, e3]
        cases hk : fldOk (l.take i)
        · have hp : ¬ (prs (tx (l.take i))).2.2 = 0 := by unfold fldOk at hk; simpa using hk
          rw [fldL_bad hc hi hk, fldsP_bad hp]; rfl
        · have hp : (prs (tx (l.take i))).2.2 = 0 := by unfold fldOk at hk; simpa using hk
          cases r with
          | zero => rw [fldL_many hc hi hk, fldsP_many hp]; rfl
          | succ r =>
            rw [fldL_next hc hi hk, fldsP_next hp, IH r]
            simp only
            generalize fldsP ss r = F
            obtain ⟨F1, F2⟩ := F
            unfold saidP plusP plusH
            by_cases h2 : F2 = 0
            · by_cases hn : n = 0
              · simp [h2, hn]
              · simp [h2, hn, fOf]
            · simp [h2]
    · rw [fldL_miss hc, lnL_miss hc]; rfl

def rlines (b : List UInt8) : List ByteArray × Nat × Int := lnL (fullB b) 2050 false (b.take 2048)
def sayP (st : ByteArray → Int) (x : List ByteArray × Nat × Int) : Fs × Nat × Int := match x.1 with
  | [] => ([], 0, x.2.2)
  | s :: ss => if st s = 0 then saidP (fldsP ss 40) x.2.1 x.2.2 else ([], 0, st s)
theorem head_lines (st : ByteArray → Int) (b : List UInt8) : headL st b = sayP st (rlines b) ∧ ∀ s ss, (rlines b).1 = s :: ss → firstL b = s := by
  unfold rlines
  have hlt : (b.take 2048).length ≤ 2048 := by rw [List.length_take]; omega
  rcases cut_cases 2048 (b.take 2048) with ⟨i, hc, hl, _⟩ | ⟨e, hc⟩
  · rw [lnL_next hc (fun h => by cases h.2)]
    have hlen : ((b.take 2048).drop (i + 2)).length < 2049 := by rw [List.length_drop]; omega
    have k := fldL_lines (fullB b) 2049 _ 40 hlen
    generalize lnL (fullB b) 2049 true ((b.take 2048).drop (i + 2)) = X at *
    obtain ⟨ss, n, code⟩ := X
    have e1 : (plusT [tx ((b.take 2048).take i)] (i + 2) (ss, n, code)) = (tx ((b.take 2048).take i) :: ss, (if n = 0 then 0 else i + 2 + n), code) := rfl
    rw [e1]
    refine ⟨?_, fun s ss' h => ?_⟩
    · unfold sayP
      simp only
      by_cases hs : st (tx ((b.take 2048).take i)) = 0
      · rw [headL_hit hc hs, if_pos hs, k]
        simp only
        generalize fldsP ss 40 = F
        obtain ⟨F1, F2⟩ := F
        unfold saidP plusH
        by_cases h2 : F2 = 0
        · by_cases hn : n = 0
          · simp [h2, hn]
          · simp [h2, hn]
        · simp [h2]
      · rw [headL_bad hc hs, if_neg hs]
    · rw [firstL_hit hc]; exact (List.cons.inj h).1
  · rw [lnL_miss hc]
    refine ⟨headL_miss hc, fun s ss' h => ?_⟩
    cases h
theorem lnL_sizes (full : Bool) : ∀ (f : Nat) (ne : Bool) (l : List UInt8), l.length ≤ 2048 → (∀ s ∈ (lnL full f ne l).1, s.size ≤ 2048) ∧ (lnL full f ne l).1.length ≤ l.length ∧ (lnL full f ne l).2.1 ≤ l.length := by
  intro f
  induction f with
  | zero => intro ne l _; exact ⟨(fun s hs => by cases hs), Nat.zero_le _, Nat.zero_le _⟩
  | succ f ih =>
    intro ne l hl0
    rcases cut_cases 2048 l with ⟨i, hc, hl, _⟩ | ⟨e, hc⟩
    · by_cases hi : i = 0 ∧ ne = true
      · obtain ⟨rfl, rfl⟩ := hi
        rw [lnL_end hc]; exact ⟨(fun s hs => by cases hs), Nat.zero_le _, hl⟩
      · rw [lnL_next hc hi]
        have k := ih true (l.drop (i + 2)) (by rw [List.length_drop]; omega)
        rw [List.length_drop] at k
        generalize lnL full f true (l.drop (i + 2)) = X at *
        obtain ⟨ss, n, code⟩ := X
        simp only at k
        refine ⟨?_, ?_, ?_⟩
        · intro s hs
          rcases List.mem_append.1 hs with q | q
          · rw [List.mem_singleton.1 q, tx_size, List.length_take]; omega
          · exact k.1 s q
        · show ([tx (l.take i)] ++ ss).length ≤ _
          rw [List.length_append]; simp only [List.length_cons, List.length_nil]; omega
        · show (if n = 0 then 0 else i + 2 + n) ≤ _
          split <;> omega
    · rw [lnL_miss hc]; exact ⟨(fun s hs => by cases hs), Nat.zero_le _, Nat.zero_le _⟩
end Go.Proofs.YtemmmdhmkegaaaaGreatDoor

/- Cut, of the reference. -/
namespace Go.Proofs.YtemmmdhmkegaaaaGreatDoor
open Go.RowKit
set_option linter.unusedVariables false

set_option maxHeartbeats 4000000 in
theorem rcut_any (b : List UInt8) (kb : Nat) (v : Value) (most : Int) (w : World) (hs : Src w kb v b) :
    Calls Tryz.prog 117 #[v, .int .i64 most] w fun e w' => e = .returned (cutV most.toNat b) ∧ w' = w := by
  obtain ⟨a, c, rfl, h1, h2, h3⟩ := hs
  obtain ⟨n, hn⟩ : ∃ n, n = b.length := ⟨_, rfl⟩
  obtain ⟨m, hm⟩ : ∃ m, m = most.toNat := ⟨_, rfl⟩
  rw [← hm, ← hn]
  rw [← hn] at h1
  unfold maxLen at h2
  have HN : Hid (n = b.length) := hn
  have HM : Hid (m = most.toNat) := hm
  have H3 : Hid (0 < b.length → ∃ off, a = some ⟨kb, off, none⟩ ∧ ∀ (j : Nat) (hj : j < b.length), w.cell? ⟨kb, off + j, none⟩ = some (bv b[j])) := h3
  clear hn hm h3
  have HE : Hid ((most < 0 ∧ m = 0) ∨ (0 ≤ most ∧ most = (m : Int))) := by rw [Hid]; have := HM.out; omega
  by_cases hneg : most < 0
  all_goals
    go_enter Tryz.func117, Tryz.ntmps117
    go_wp2
    go_loop [7] (fun vi => ∃ k : Nat, k ≤ n ∧ vi = .int .i64 k ∧ Hid (cutAt m 0 b = cutAt m k (b.drop k))) (fun vi => n - (intOf vi).toNat)
    case atStart => exact ⟨0, Nat.zero_le _, rfl, rfl⟩
    case round =>
      obtain ⟨k, hk, rfl, hA⟩ := hrel
      by_cases hlt : k < n
      · have hlb : k < b.length := by have := HN.out; omega
        obtain ⟨off, rfl, hc⟩ := H3.out (by omega)
        have q1 : w.cell? ⟨kb, off + k, none⟩ = some (.int .u8 (b[k].toNat : Int)) := hc k hlb
        by_cases t1 : b[k] = 10
        · have HR : Hid (cutV m b = .tuple #[.string ⟨#[]⟩, .int .i64 0, .int .i64 20]) := cutV_miss (hA.out.trans (cutAt_ten hlb t1))
          rw [t1] at q1
          have q2 : w.cell? ⟨kb, off + k, none⟩ = some (.int .u8 10) := q1
          clear q1 hc t1 hlb H3 hA
          go_wp2
          refine bodyPost_ret (v := .tuple #[.string ⟨#[]⟩, .int .i64 0, .int .i64 20]) (by simp [results, Tryz.results117, go_sem]) rfl ⟨?_, rfl⟩
          rw [HR.out]
        · by_cases t2 : b[k] = 13
          · rw [t2] at q1
            have q2 : w.cell? ⟨kb, off + k, none⟩ = some (.int .u8 13) := q1
            clear q1
            by_cases t3 : k + 1 < n
            · have hlb1 : k + 1 < b.length := by have := HN.out; omega
              have q3 : w.cell? ⟨kb, off + (k + 1), none⟩ = some (.int .u8 (b[k + 1].toNat : Int)) := hc (k + 1) hlb1
              have hl : ((k : Int) + 1 == (n : Int)) = false := by simp; omega
              have hl' : ((k : Int) == (n : Int) - 1) = false := by simp; omega
              by_cases t4 : b[k + 1] = 10
              · have HR : Hid (cutV m b = .tuple #[.string ⟨(b.take k).toArray⟩, .int .i64 ((k : Int) + 2), .int .i64 0]) := cutV_hit (hA.out.trans (cutAt_end hlb1 t2 t4))
                rw [t4] at q3
                have q4 : w.cell? ⟨kb, off + (k + 1), none⟩ = some (.int .u8 10) := q3
                have hcv := conv_take (c := c) hc k (by omega)
                clear q3 hc t1 t2 t4 hlb hlb1 H3 hA
                go_wp2
                refine bodyPost_ret (v := .tuple #[.string ⟨(b.take k).toArray⟩, .int .i64 ((k : Int) + 2), .int .i64 0]) (by simp [results, Tryz.results117, go_sem]) rfl ⟨?_, rfl⟩
                rw [HR.out]
              · have HR : Hid (cutV m b = .tuple #[.string ⟨#[]⟩, .int .i64 0, .int .i64 20]) := cutV_miss (hA.out.trans (cutAt_bad hlb1 t2 t4))
                have t5 := toNat_ne 10 10 rfl t4
                have t6 : ¬ ((b[k + 1].toNat : Int) = 10) := t5
                clear t5 hc t1 t2 t4 hlb H3 hA
                generalize (b[k + 1].toNat : Int) = y at *
                have t9 : (y != 10) = true := by simpa using t6
                clear hlb1
                go_wp2
                refine bodyPost_ret (v := .tuple #[.string ⟨#[]⟩, .int .i64 0, .int .i64 20]) (by simp [results, Tryz.results117, go_sem]) rfl ⟨?_, rfl⟩
                rw [HR.out]
            · have HR : Hid (cutV m b = .tuple #[.string ⟨#[]⟩, .int .i64 0, .int .i64 0]) := cutV_miss (hA.out.trans (cutAt_last (by have := HN.out; omega) t2))
              obtain rfl : n = k + 1 := by omega
              clear hc t1 t2 hlb H3 hA
              go_wp2
              refine bodyPost_ret (v := .tuple #[.string ⟨#[]⟩, .int .i64 0, .int .i64 0]) (by simp [results, Tryz.results117, go_sem]) rfl ⟨?_, rfl⟩
              rw [HR.out]
          · have t5 : ¬ ((b[k].toNat : Int) = 10) := toNat_ne 10 10 rfl t1
            have t6 : ¬ ((b[k].toNat : Int) = 13) := toNat_ne 13 13 rfl t2
            by_cases t7 : m ≤ k
            · have HR : Hid (cutV m b = .tuple #[.string ⟨#[]⟩, .int .i64 0, .int .i64 2]) := cutV_miss (hA.out.trans (cutAt_long hlb t1 t2 t7))
              have t8 : most ≤ (k : Int) := by have := HM.out; omega
              clear hc t1 t2 H3 hA
              generalize (b[k].toNat : Int) = y at *
              clear hlb
              go_wp2
              refine bodyPost_ret (v := .tuple #[.string ⟨#[]⟩, .int .i64 0, .int .i64 2]) (by simp [results, Tryz.results117, go_sem]) rfl ⟨?_, rfl⟩
              rw [HR.out]
            · have HX : Hid (cutAt m 0 b = cutAt m (k + 1) (b.drop (k + 1))) := hA.out.trans (cutAt_next hlb t1 t2 t7)
              have t8 : ¬ most ≤ (k : Int) := by have := HM.out; omega
              clear hc t1 t2 H3 hA
              generalize (b[k].toNat : Int) = y at *
              clear hlb
              first
                | (exfalso; have := HE.out; omega)
                | (go_wp2
                   go_round
                   case rel => exact ⟨k + 1, by omega, by go_num, HX⟩
                   case measure => simp [intOf]; omega)
      · have HR : Hid (cutV m b = .tuple #[.string ⟨#[]⟩, .int .i64 0, .int .i64 0]) := cutV_miss (hA.out.trans (cutAt_fin (by have := HN.out; omega)))
        go_wp2
        refine bodyPost_ret (v := .tuple #[.string ⟨#[]⟩, .int .i64 0, .int .i64 0]) (by simp [results, Tryz.results117, go_sem]) rfl ⟨?_, rfl⟩
        rw [HR.out]
end Go.Proofs.YtemmmdhmkegaaaaGreatDoor

/- The reference's Lines. -/
namespace Go.Proofs.YtemmmdhmkegaaaaGreatDoor
open Go.ChangeShapes Go.WideShapes Go.ChangeAt Go.RowKit
set_option linter.unusedVariables false

theorem plusT_nil (X : List ByteArray × Nat × Int) : plusT [] 0 X = X := by
  obtain ⟨a, n, e⟩ := X
  unfold plusT
  by_cases h : n = 0
  · subst h; rfl
  · simp only [if_neg h, List.nil_append, Nat.zero_add]
theorem room_next (b : List UInt8) (i j : Nat) : roomL b (i + j) = (roomL b i).drop j := by unfold roomL; rw [List.drop_drop]

set_option maxRecDepth 100000 in
set_option maxHeartbeats 4000000 in
theorem rlines_any (b : List UInt8) (kb c : Nat) (a : Option Addr) (w : World) (hs : Src w kb (.slice a b.length c) b) (hk : 0 < b.length → kb < w.heap.size) :
    Calls Tryz.prog 86 #[.slice a b.length c] w fun e w' => ∃ ao cv, e = .returned (.tuple #[.slice ao (rlines b).1.length cv, .int .i64 ((rlines b).2.1 : Nat), .int .i64 (rlines b).2.2]) ∧ OwnT w.heap.size w' (.slice ao (rlines b).1.length cv) (rlines b).1 ∧ Below w.heap.size w w' := by
  have hlen := hs.len
  obtain ⟨n, hn⟩ : ∃ n, n = b.length := ⟨_, rfl⟩
  obtain ⟨m, hm⟩ : ∃ m, m = min 2048 n := ⟨_, rfl⟩
  have C0 : Below w.heap.size w (w.alloc (.cells #[] 9)) := (Below.refl _ _).alloc (Nat.le_refl _) _
  have hR : ∀ at_, roomL b at_ = (b.take m).drop at_ := fun at_ => by
    unfold roomL
    congr 1
    rw [hm, hn, ← List.take_eq_take_min]
  have hroom : Hid (∀ at_, (roomL b at_).length = m - at_) := fun at_ => by
    rw [hR, List.length_drop, List.length_take]; omega
  have HC : Hid (∀ (W : World) (at_ : Nat) (v : Value), Src W kb v (roomL b at_) → Calls Tryz.prog 117 #[v, .int .i64 2048] W fun e w' => e = .returned (cutV 2048 (roomL b at_)) ∧ w' = W) := fun W at_ v h => rcut_any _ kb _ 2048 W h
  have HCE : Hid (∀ (W : World) (at_ : Nat) (a' : Option Addr), Below w.heap.size w W → at_ ≤ m → (at_ < c → a' = a.map (fun x => x.add at_)) → Src W kb (.slice a' (m - at_) (c - at_)) (roomL b at_)) := fun W at_ a' hB ha ha' => by
    rw [hR]
    exact ((hs.keep hk hB).take (m := m) (by omega)).cut (by rw [List.length_take]; omega) ha'
  rw [← hn] at hlen ⊢
  have hc2 : c ≤ maxLen := hlen.2.2
  unfold maxLen at hc2
  have hnc : n ≤ c := hlen.2.1
  obtain ⟨full, hfull⟩ : ∃ full, full = fullB b := ⟨_, rfl⟩
  have HF : Hid (full = decide (2048 ≤ n)) := by rw [Hid, hfull, hn]; rfl
  have hst0 : Hid (rlines b = plusT [] 0 (lnL full 2050 (decide (0 < ([] : List ByteArray).length)) (roomL b 0))) := by
    rw [Hid, plusT_nil, hfull]; rfl
  clear hs hk hlen hn hR hfull
  generalize rlines b = R at *
  have hmc : m ≤ c := by omega
  by_cases hbig : 2048 < n
  · have hm2 : m = 2048 := by omega
    subst hm2
    clear hm
    have hbi : (2048 : Int) < (n : Int) := by omega
    go_enter Tryz.func86, Tryz.ntmps86
    go_wp2_with fail
    go_loopw [5, 6] (fun vo va wr => ∃ (at_ f : Nat) (K : List ByteArray) (ao : Option Addr) (cv : Nat), at_ ≤ 2048 ∧ K.length ≤ at_ ∧ vo = .slice ao K.length cv ∧ va = .int .i64 at_ ∧ OwnT w.heap.size wr vo K ∧ Hid (2048 - at_ < f) ∧ Hid (R = plusT K at_ (lnL full f (decide (0 < K.length)) (roomL b at_))) ∧ Below w.heap.size w wr) (fun _ va _ => 2048 - (intOf va).toNat)
    case atStart => exact ⟨0, 2050, [], _, 0, by omega, Nat.zero_le _, rfl, rfl, OwnT.empty _ _ (Nat.le_refl _), by rw [Hid]; omega, hst0, C0⟩
    case round =>
      obtain ⟨at_, f, K, ao, cv, hat, hK, rfl, rfl, hO, hf, hR, hB⟩ := hrel
      clear C0 hst0
      have HO : Hid (OwnT w.heap.size wr (.slice ao K.length cv) K) := hO
      have HKL : Hid (K.length ≤ 16777216) := by rw [Hid]; omega
      clear hO
      have hrm := hroom.out at_
      have hcell : Hid (∀ a' : Option Addr, (at_ < c → a' = a.map (fun x => x.add at_)) → Src wr kb (.slice a' (2048 - at_) (c - at_)) (roomL b at_)) := fun a' h => HCE.out wr at_ a' hB hat h
      obtain ⟨f', rfl⟩ : ∃ f', f = f' + 1 := ⟨f - 1, by have := hf.out; omega⟩
      rcases cut_cases 2048 (roomL b at_) with ⟨j, hc, hl, _⟩ | ⟨er, hc⟩
      · rw [hrm] at hl
        have hj2 : ¬ ((j : Int) + 2) = 0 := by omega
        have hj3 : (((j : Int) + 2) == 0) = false := by simpa using hj2
        have HC3 : Hid (∀ v : Value, Src wr kb v (roomL b at_) → Calls Tryz.prog 117 #[v, .int .i64 2048] wr fun e w' => e = .returned (.tuple #[.string (tx ((roomL b at_).take j)), .int .i64 ((j : Int) + 2), .int .i64 0]) ∧ w' = wr) := fun v h => by
          have k := HC.out wr at_ v h
          rw [cutV_hit hc] at k
          exact k
        by_cases h0 : j = 0 ∧ 0 < K.length
        · obtain ⟨rfl, hKp⟩ := h0
          have hKi : (0 : Int) < (K.length : Int) := by omega
          have HE : Hid (R = (K, at_ + 2, 0)) := by
            rw [Hid, hR.out, decide_eq_true hKp, lnL_end hc]
            unfold plusT
            simp
          have HCX : Hid (∀ v : Value, Src wr kb v (roomL b at_) → Calls Tryz.prog 117 #[v, .int .i64 2048] wr fun e w' => e = .returned (.tuple #[.string ⟨#[]⟩, .int .i64 2, .int .i64 0]) ∧ w' = wr) := HC3.out
          clear HC3 hc hR hj2 hj3 hrm hf
          go_wp2_with fail
          all_goals
            refine (HCX.out _ (by first | (have hx := hcell.out a (fun h => by omega); rw [show c - at_ = 0 by omega] at hx; exact hx) | exact hcell.out _ (fun _ => rfl) | exact hcell.out _ (fun h => if_neg (by omega)) | exact hcell.out _ (fun h => by omega))).mono ?_
            rintro e w1 ⟨rfl, rfl⟩
            go_wp2
            refine bodyPost_ret (v := .tuple #[.slice ao K.length cv, .int .i64 ((at_ : Int) + 2), .int .i64 0]) (by simp [results, Tryz.results86, go_sem]) rfl ?_
            rw [HE.out]
            exact ⟨ao, cv, rfl, HO.out, hB⟩
        · have HX : Hid (R = plusT (K ++ [tx ((roomL b at_).take j)]) (at_ + (j + 2)) (lnL full f' (decide (0 < (K ++ [tx ((roomL b at_).take j)]).length)) (roomL b (at_ + (j + 2))))) := by
            rw [Hid, hR.out, lnL_next hc (fun k => h0 ⟨k.1, of_decide_eq_true k.2⟩), plusT_plusT, room_next, decide_eq_true (by rw [List.length_append]; simp)]
          have hts : (tx ((roomL b at_).take j)).size = j := by rw [tx_size, List.length_take, hrm]; omega
          by_cases hj0 : j = 0
          · have hem : (tx ((roomL b at_).take j)).toList.isEmpty = true := by
              subst hj0
              rw [List.take_zero, ByteArray.toList_eq]
              rfl
            have hki : ¬ (0 : Int) < (K.length : Int) := by omega
            clear hc hR hrm hts h0
            generalize tx ((roomL b at_).take j) = s at *
            have HCX := HC3
            clear HC3
            have own3 := HO.out.keep ((Below.refl _ _).alloc (Nat.le_refl _) (.cells #[.string s] 9))
            obtain ⟨v4, w4, r4, own4, B4⟩ := ownT_append own3 (one_txs wr s _ (Nat.lt_succ_self _)) (by have := HKL.out; simp; omega) (by have := hB.size; simp; omega)
            have hB4 : Below w.heap.size w w4 := (hB.alloc hB.size _).trans B4
            obtain ⟨a4, c4, rfl, _⟩ := own4.form
            have HO4 : Hid (OwnT w.heap.size w4 (.slice a4 (K ++ [s]).length c4) (K ++ [s])) := own4
            have HRN : Hid ((Builtin.append_ #[141, 141] 141 #[.slice ao K.length cv, .slice (some ⟨wr.heap.size, 0, none⟩) 1 1]).run Tryz.prog (wr.alloc (.cells #[.string s] 9)) = .ok (.slice a4 (K ++ [s]).length c4) w4) := r4
            have HLE : Hid ((K ++ [s]).length = K.length + 1) := by rw [Hid, List.length_append]; rfl
            clear own3 own4 B4 r4 HO
            obtain ⟨K2, hK2⟩ : ∃ K2, K2 = K ++ [s] := ⟨_, rfl⟩
            rw [← hK2] at HO4 HRN HLE HX
            clear hK2
            obtain ⟨L, hL⟩ : ∃ L, L = K2.length := ⟨_, rfl⟩
            rw [← hL] at HO4 HRN HLE
            have HL : Hid (L = K2.length) := hL
            clear hL
            go_wp2_with fail
            all_goals
              refine (HCX.out _ (by first | (have hx := hcell.out a (fun h => by omega); rw [show c - at_ = 0 by omega] at hx; exact hx) | exact hcell.out _ (fun _ => rfl) | exact hcell.out _ (fun h => if_neg (by omega)) | exact hcell.out _ (fun h => by omega))).mono ?_
              rintro e w1 ⟨rfl, rfl⟩
              go_wp2_with (at_builtin; refine wpList_append_run2 rfl _ _ 141 141 rfl _ _ _ w4 rfl rfl HRN.out ?_)
              go_roundw
              case rel => exact ⟨at_ + (j + 2), f', K2, a4, c4, by omega, by rw [← HL.out, HLE.out]; omega, by rw [HL.out], by go_num, HO4.out, by have := hf.out; rw [Hid]; omega, HX, hB4⟩
              case measure => simp [intOf]; omega
          · have hne : (tx ((roomL b at_).take j)).toList.isEmpty = false := isEmpty_of (by rw [hts]; exact hj0)
            clear hc hR hrm hts h0
            generalize tx ((roomL b at_).take j) = s at *
            have HCX := HC3
            clear HC3
            have own3 := HO.out.keep ((Below.refl _ _).alloc (Nat.le_refl _) (.cells #[.string s] 9))
            obtain ⟨v4, w4, r4, own4, B4⟩ := ownT_append own3 (one_txs wr s _ (Nat.lt_succ_self _)) (by have := HKL.out; simp; omega) (by have := hB.size; simp; omega)
            have hB4 : Below w.heap.size w w4 := (hB.alloc hB.size _).trans B4
            obtain ⟨a4, c4, rfl, _⟩ := own4.form
            have HO4 : Hid (OwnT w.heap.size w4 (.slice a4 (K ++ [s]).length c4) (K ++ [s])) := own4
            have HRN : Hid ((Builtin.append_ #[141, 141] 141 #[.slice ao K.length cv, .slice (some ⟨wr.heap.size, 0, none⟩) 1 1]).run Tryz.prog (wr.alloc (.cells #[.string s] 9)) = .ok (.slice a4 (K ++ [s]).length c4) w4) := r4
            have HLE : Hid ((K ++ [s]).length = K.length + 1) := by rw [Hid, List.length_append]; rfl
            clear own3 own4 B4 r4 HO
            obtain ⟨K2, hK2⟩ : ∃ K2, K2 = K ++ [s] := ⟨_, rfl⟩
            rw [← hK2] at HO4 HRN HLE HX
            clear hK2
            obtain ⟨L, hL⟩ : ∃ L, L = K2.length := ⟨_, rfl⟩
            rw [← hL] at HO4 HRN HLE
            have HL : Hid (L = K2.length) := hL
            clear hL
            go_wp2_with fail
            all_goals
              refine (HCX.out _ (by first | (have hx := hcell.out a (fun h => by omega); rw [show c - at_ = 0 by omega] at hx; exact hx) | exact hcell.out _ (fun _ => rfl) | exact hcell.out _ (fun h => if_neg (by omega)) | exact hcell.out _ (fun h => by omega))).mono ?_
              rintro e w1 ⟨rfl, rfl⟩
              go_wp2_with (at_builtin; refine wpList_append_run2 rfl _ _ 141 141 rfl _ _ _ w4 rfl rfl HRN.out ?_)
              go_roundw
              case rel => exact ⟨at_ + (j + 2), f', K2, a4, c4, by omega, by rw [← HL.out, HLE.out]; omega, by rw [HL.out], by go_num, HO4.out, by have := hf.out; rw [Hid]; omega, HX, hB4⟩
              case measure => simp [intOf]; omega
      · have HE0 : Hid (R = (K, 0, hst full er)) := by
          rw [Hid, hR.out, lnL_miss hc]
          unfold plusT
          simp
        have HCX : Hid (∀ v : Value, Src wr kb v (roomL b at_) → Calls Tryz.prog 117 #[v, .int .i64 2048] wr fun e w' => e = .returned (.tuple #[.string ⟨#[]⟩, .int .i64 0, .int .i64 er]) ∧ w' = wr) := fun v h => by
          have k := HC.out wr at_ v h
          rw [cutV_miss hc] at k
          exact k
        have her := cut_err 2048 _ 0 er (by rw [hrm]; omega) hc
        clear hc hR hrm hf
        rcases her with rfl | rfl
        · by_cases hfu : 2048 ≤ n
          · have HE : Hid (R = (K, 0, 431)) := by rw [Hid, HE0.out, HF.out, decide_eq_true hfu]; rfl
            have hfi : (2048 : Int) ≤ (n : Int) := by omega
            clear HE0
            go_wp2_with fail
            all_goals
            refine (HCX.out _ (by first | (have hx := hcell.out a (fun h => by omega); rw [show c - at_ = 0 by omega] at hx; exact hx) | exact hcell.out _ (fun _ => rfl) | exact hcell.out _ (fun h => if_neg (by omega)) | exact hcell.out _ (fun h => by omega))).mono ?_
            rintro e w1 ⟨rfl, rfl⟩
            go_wp2
            refine bodyPost_ret (v := .tuple #[.slice ao K.length cv, .int .i64 0, .int .i64 431]) (by simp [results, Tryz.results86, go_sem]) rfl ?_
            rw [HE.out]
            exact ⟨ao, cv, rfl, HO.out, hB⟩
          · exfalso; omega
        · have HE : Hid (R = (K, 0, 400)) := HE0.out
          clear HE0
          go_wp2_with fail
          all_goals
            refine (HCX.out _ (by first | (have hx := hcell.out a (fun h => by omega); rw [show c - at_ = 0 by omega] at hx; exact hx) | exact hcell.out _ (fun _ => rfl) | exact hcell.out _ (fun h => if_neg (by omega)) | exact hcell.out _ (fun h => by omega))).mono ?_
            rintro e w1 ⟨rfl, rfl⟩
            go_wp2
            refine bodyPost_ret (v := .tuple #[.slice ao K.length cv, .int .i64 0, .int .i64 400]) (by simp [results, Tryz.results86, go_sem]) rfl ?_
            rw [HE.out]
            exact ⟨ao, cv, rfl, HO.out, hB⟩
  · have hm2 : n = m := by omega
    subst hm2
    clear hm
    have hbi : ¬ (2048 : Int) < (n : Int) := by omega
    go_enter Tryz.func86, Tryz.ntmps86
    go_wp2_with fail
    go_loopw [5, 6] (fun vo va wr => ∃ (at_ f : Nat) (K : List ByteArray) (ao : Option Addr) (cv : Nat), at_ ≤ n ∧ K.length ≤ at_ ∧ vo = .slice ao K.length cv ∧ va = .int .i64 at_ ∧ OwnT w.heap.size wr vo K ∧ Hid (n - at_ < f) ∧ Hid (R = plusT K at_ (lnL full f (decide (0 < K.length)) (roomL b at_))) ∧ Below w.heap.size w wr) (fun _ va _ => n - (intOf va).toNat)
    case atStart => exact ⟨0, 2050, [], _, 0, by omega, Nat.zero_le _, rfl, rfl, OwnT.empty _ _ (Nat.le_refl _), by rw [Hid]; omega, hst0, C0⟩
    case round =>
      obtain ⟨at_, f, K, ao, cv, hat, hK, rfl, rfl, hO, hf, hR, hB⟩ := hrel
      clear C0 hst0
      have HO : Hid (OwnT w.heap.size wr (.slice ao K.length cv) K) := hO
      have HKL : Hid (K.length ≤ 16777216) := by rw [Hid]; omega
      clear hO
      have hrm := hroom.out at_
      have hcell : Hid (∀ a' : Option Addr, (at_ < c → a' = a.map (fun x => x.add at_)) → Src wr kb (.slice a' (n - at_) (c - at_)) (roomL b at_)) := fun a' h => HCE.out wr at_ a' hB hat h
      obtain ⟨f', rfl⟩ : ∃ f', f = f' + 1 := ⟨f - 1, by have := hf.out; omega⟩
      rcases cut_cases 2048 (roomL b at_) with ⟨j, hc, hl, _⟩ | ⟨er, hc⟩
      · rw [hrm] at hl
        have hj2 : ¬ ((j : Int) + 2) = 0 := by omega
        have hj3 : (((j : Int) + 2) == 0) = false := by simpa using hj2
        have HC3 : Hid (∀ v : Value, Src wr kb v (roomL b at_) → Calls Tryz.prog 117 #[v, .int .i64 2048] wr fun e w' => e = .returned (.tuple #[.string (tx ((roomL b at_).take j)), .int .i64 ((j : Int) + 2), .int .i64 0]) ∧ w' = wr) := fun v h => by
          have k := HC.out wr at_ v h
          rw [cutV_hit hc] at k
          exact k
        by_cases h0 : j = 0 ∧ 0 < K.length
        · obtain ⟨rfl, hKp⟩ := h0
          have hKi : (0 : Int) < (K.length : Int) := by omega
          have HE : Hid (R = (K, at_ + 2, 0)) := by
            rw [Hid, hR.out, decide_eq_true hKp, lnL_end hc]
            unfold plusT
            simp
          have HCX : Hid (∀ v : Value, Src wr kb v (roomL b at_) → Calls Tryz.prog 117 #[v, .int .i64 2048] wr fun e w' => e = .returned (.tuple #[.string ⟨#[]⟩, .int .i64 2, .int .i64 0]) ∧ w' = wr) := HC3.out
          clear HC3 hc hR hj2 hj3 hrm hf
          go_wp2_with fail
          all_goals
            refine (HCX.out _ (by first | (have hx := hcell.out a (fun h => by omega); rw [show c - at_ = 0 by omega] at hx; exact hx) | exact hcell.out _ (fun _ => rfl) | exact hcell.out _ (fun h => if_neg (by omega)) | exact hcell.out _ (fun h => by omega))).mono ?_
            rintro e w1 ⟨rfl, rfl⟩
            go_wp2
            refine bodyPost_ret (v := .tuple #[.slice ao K.length cv, .int .i64 ((at_ : Int) + 2), .int .i64 0]) (by simp [results, Tryz.results86, go_sem]) rfl ?_
            rw [HE.out]
            exact ⟨ao, cv, rfl, HO.out, hB⟩
        · have HX : Hid (R = plusT (K ++ [tx ((roomL b at_).take j)]) (at_ + (j + 2)) (lnL full f' (decide (0 < (K ++ [tx ((roomL b at_).take j)]).length)) (roomL b (at_ + (j + 2))))) := by
            rw [Hid, hR.out, lnL_next hc (fun k => h0 ⟨k.1, of_decide_eq_true k.2⟩), plusT_plusT, room_next, decide_eq_true (by rw [List.length_append]; simp)]
          have hts : (tx ((roomL b at_).take j)).size = j := by rw [tx_size, List.length_take, hrm]; omega
          by_cases hj0 : j = 0
          · have hem : (tx ((roomL b at_).take j)).toList.isEmpty = true := by
              subst hj0
              rw [List.take_zero, ByteArray.toList_eq]
              rfl
            have hki : ¬ (0 : Int) < (K.length : Int) := by omega
            clear hc hR hrm hts h0
            generalize tx ((roomL b at_).take j) = s at *
            have HCX := HC3
            clear HC3
            have own3 := HO.out.keep ((Below.refl _ _).alloc (Nat.le_refl _) (.cells #[.string s] 9))
            obtain ⟨v4, w4, r4, own4, B4⟩ := ownT_append own3 (one_txs wr s _ (Nat.lt_succ_self _)) (by have := HKL.out; simp; omega) (by have := hB.size; simp; omega)
            have hB4 : Below w.heap.size w w4 := (hB.alloc hB.size _).trans B4
            obtain ⟨a4, c4, rfl, _⟩ := own4.form
            have HO4 : Hid (OwnT w.heap.size w4 (.slice a4 (K ++ [s]).length c4) (K ++ [s])) := own4
            have HRN : Hid ((Builtin.append_ #[141, 141] 141 #[.slice ao K.length cv, .slice (some ⟨wr.heap.size, 0, none⟩) 1 1]).run Tryz.prog (wr.alloc (.cells #[.string s] 9)) = .ok (.slice a4 (K ++ [s]).length c4) w4) := r4
            have HLE : Hid ((K ++ [s]).length = K.length + 1) := by rw [Hid, List.length_append]; rfl
            clear own3 own4 B4 r4 HO
            obtain ⟨K2, hK2⟩ : ∃ K2, K2 = K ++ [s] := ⟨_, rfl⟩
            rw [← hK2] at HO4 HRN HLE HX
            clear hK2
            obtain ⟨L, hL⟩ : ∃ L, L = K2.length := ⟨_, rfl⟩
            rw [← hL] at HO4 HRN HLE
            have HL : Hid (L = K2.length) := hL
            clear hL
            go_wp2_with fail
            all_goals
              refine (HCX.out _ (by first | (have hx := hcell.out a (fun h => by omega); rw [show c - at_ = 0 by omega] at hx; exact hx) | exact hcell.out _ (fun _ => rfl) | exact hcell.out _ (fun h => if_neg (by omega)) | exact hcell.out _ (fun h => by omega))).mono ?_
              rintro e w1 ⟨rfl, rfl⟩
              go_wp2_with (at_builtin; refine wpList_append_run2 rfl _ _ 141 141 rfl _ _ _ w4 rfl rfl HRN.out ?_)
              go_roundw
              case rel => exact ⟨at_ + (j + 2), f', K2, a4, c4, by omega, by rw [← HL.out, HLE.out]; omega, by rw [HL.out], by go_num, HO4.out, by have := hf.out; rw [Hid]; omega, HX, hB4⟩
              case measure => simp [intOf]; omega
          · have hne : (tx ((roomL b at_).take j)).toList.isEmpty = false := isEmpty_of (by rw [hts]; exact hj0)
            clear hc hR hrm hts h0
            generalize tx ((roomL b at_).take j) = s at *
            have HCX := HC3
            clear HC3
            have own3 := HO.out.keep ((Below.refl _ _).alloc (Nat.le_refl _) (.cells #[.string s] 9))
            obtain ⟨v4, w4, r4, own4, B4⟩ := ownT_append own3 (one_txs wr s _ (Nat.lt_succ_self _)) (by have := HKL.out; simp; omega) (by have := hB.size; simp; omega)
            have hB4 : Below w.heap.size w w4 := (hB.alloc hB.size _).trans B4
            obtain ⟨a4, c4, rfl, _⟩ := own4.form
            have HO4 : Hid (OwnT w.heap.size w4 (.slice a4 (K ++ [s]).length c4) (K ++ [s])) := own4
            have HRN : Hid ((Builtin.append_ #[141, 141] 141 #[.slice ao K.length cv, .slice (some ⟨wr.heap.size, 0, none⟩) 1 1]).run Tryz.prog (wr.alloc (.cells #[.string s] 9)) = .ok (.slice a4 (K ++ [s]).length c4) w4) := r4
            have HLE : Hid ((K ++ [s]).length = K.length + 1) := by rw [Hid, List.length_append]; rfl
            clear own3 own4 B4 r4 HO
            obtain ⟨K2, hK2⟩ : ∃ K2, K2 = K ++ [s] := ⟨_, rfl⟩
            rw [← hK2] at HO4 HRN HLE HX
            clear hK2
            obtain ⟨L, hL⟩ : ∃ L, L = K2.length := ⟨_, rfl⟩
            rw [← hL] at HO4 HRN HLE
            have HL : Hid (L = K2.length) := hL
            clear hL
            go_wp2_with fail
            all_goals
              refine (HCX.out _ (by first | (have hx := hcell.out a (fun h => by omega); rw [show c - at_ = 0 by omega] at hx; exact hx) | exact hcell.out _ (fun _ => rfl) | exact hcell.out _ (fun h => if_neg (by omega)) | exact hcell.out _ (fun h => by omega))).mono ?_
              rintro e w1 ⟨rfl, rfl⟩
              go_wp2_with (at_builtin; refine wpList_append_run2 rfl _ _ 141 141 rfl _ _ _ w4 rfl rfl HRN.out ?_)
              go_roundw
              case rel => exact ⟨at_ + (j + 2), f', K2, a4, c4, by omega, by rw [← HL.out, HLE.out]; omega, by rw [HL.out], by go_num, HO4.out, by have := hf.out; rw [Hid]; omega, HX, hB4⟩
              case measure => simp [intOf]; omega
      · have HE0 : Hid (R = (K, 0, hst full er)) := by
          rw [Hid, hR.out, lnL_miss hc]
          unfold plusT
          simp
        have HCX : Hid (∀ v : Value, Src wr kb v (roomL b at_) → Calls Tryz.prog 117 #[v, .int .i64 2048] wr fun e w' => e = .returned (.tuple #[.string ⟨#[]⟩, .int .i64 0, .int .i64 er]) ∧ w' = wr) := fun v h => by
          have k := HC.out wr at_ v h
          rw [cutV_miss hc] at k
          exact k
        have her := cut_err 2048 _ 0 er (by rw [hrm]; omega) hc
        clear hc hR hrm hf
        rcases her with rfl | rfl
        · by_cases hfu : 2048 ≤ n
          · have HE : Hid (R = (K, 0, 431)) := by rw [Hid, HE0.out, HF.out, decide_eq_true hfu]; rfl
            have hfi : (2048 : Int) ≤ (n : Int) := by omega
            clear HE0
            go_wp2_with fail
            all_goals
            refine (HCX.out _ (by first | (have hx := hcell.out a (fun h => by omega); rw [show c - at_ = 0 by omega] at hx; exact hx) | exact hcell.out _ (fun _ => rfl) | exact hcell.out _ (fun h => if_neg (by omega)) | exact hcell.out _ (fun h => by omega))).mono ?_
            rintro e w1 ⟨rfl, rfl⟩
            go_wp2
            refine bodyPost_ret (v := .tuple #[.slice ao K.length cv, .int .i64 0, .int .i64 431]) (by simp [results, Tryz.results86, go_sem]) rfl ?_
            rw [HE.out]
            exact ⟨ao, cv, rfl, HO.out, hB⟩
          · have HE : Hid (R = (K, 0, 0)) := by rw [Hid, HE0.out, HF.out, decide_eq_false hfu]; rfl
            have hfi : ¬ (2048 : Int) ≤ (n : Int) := by omega
            clear HE0
            go_wp2_with fail
            all_goals
            refine (HCX.out _ (by first | (have hx := hcell.out a (fun h => by omega); rw [show c - at_ = 0 by omega] at hx; exact hx) | exact hcell.out _ (fun _ => rfl) | exact hcell.out _ (fun h => if_neg (by omega)) | exact hcell.out _ (fun h => by omega))).mono ?_
            rintro e w1 ⟨rfl, rfl⟩
            go_wp2
            refine bodyPost_ret (v := .tuple #[.slice ao K.length cv, .int .i64 0, .int .i64 0]) (by simp [results, Tryz.results86, go_sem]) rfl ?_
            rw [HE.out]
            exact ⟨ao, cv, rfl, HO.out, hB⟩
        · have HE : Hid (R = (K, 0, 400)) := HE0.out
          clear HE0
          go_wp2_with fail
          all_goals
            refine (HCX.out _ (by first | (have hx := hcell.out a (fun h => by omega); rw [show c - at_ = 0 by omega] at hx; exact hx) | exact hcell.out _ (fun _ => rfl) | exact hcell.out _ (fun h => if_neg (by omega)) | exact hcell.out _ (fun h => by omega))).mono ?_
            rintro e w1 ⟨rfl, rfl⟩
            go_wp2
            refine bodyPost_ret (v := .tuple #[.slice ao K.length cv, .int .i64 0, .int .i64 400]) (by simp [results, Tryz.results86, go_sem]) rfl ?_
            rw [HE.out]
            exact ⟨ao, cv, rfl, HO.out, hB⟩
end Go.Proofs.YtemmmdhmkegaaaaGreatDoor

/- The reference's Digit. -/
namespace Go.Proofs.YtemmmdhmkegaaaaGreatDoor
open Go.RowKit
set_option linter.unusedVariables false

theorem rdig_any (c : Int) (w : World) : Calls Tryz.prog 123 #[.int .u8 c] w fun e w' => e = .returned (.bool (spanP 48 57 c)) ∧ w' = w := by
  unfold spanP
  by_cases a : 48 ≤ c
  · by_cases b : c ≤ 57
    · go_enter Tryz.func123, Tryz.ntmps123
      go_wp2
      go_ret
      exact ⟨ret_b (by simp [a, b]), rfl⟩
    · go_enter Tryz.func123, Tryz.ntmps123
      go_wp2
      go_ret
      exact ⟨ret_b (by simp [b]), rfl⟩
  · go_enter Tryz.func123, Tryz.ntmps123
    go_wp2
    go_ret
    exact ⟨ret_b (by simp; omega), rfl⟩

end Go.Proofs.YtemmmdhmkegaaaaGreatDoor

/- All bytes, one by one. -/
namespace Go.Proofs.YtemmmdhmkegaaaaGreatDoor
open Go.RowKit
set_option linter.unusedVariables false

theorem byte_all {P : Int → Prop} (h : ∀ n : Nat, n < 256 → P (n : Int)) (c : Int) (h0 : 0 ≤ c) (h1 : c < 256) : P c := by
  obtain ⟨n, rfl⟩ := Int.eq_ofNat_of_zero_le h0
  exact h n (by omega)
end Go.Proofs.YtemmmdhmkegaaaaGreatDoor

/- The reference's Token, Value and Target: what each answers of every text. -/
namespace Go.Proofs.YtemmmdhmkegaaaaGreatDoor
open Go.RowKit
set_option linter.unusedVariables false

def letP (c : Int) : Bool := spanP 97 122 c || spanP 65 90 c
def tokL : List Int := [33, 35, 36, 37, 38, 39, 42, 43, 45, 46, 94, 95, 96, 124, 126]
theorem tok_iff (c : Int) (h0 : 0 ≤ c) (h1 : c < 256) : tokP c = (tokL.any (fun x => c == x) || (letP c || spanP 48 57 c)) :=
  byte_all (P := fun c => tokP c = (tokL.any (fun x => c == x) || (letP c || spanP 48 57 c))) (by decide +kernel) c h0 h1

theorem letter_any (c : Int) (w : World) : Calls Tryz.prog 181 #[.int .u8 c] w fun e w' => e = .returned (.bool (letP c)) ∧ w' = w := by
  unfold letP spanP
  by_cases a : 97 ≤ c
  · by_cases b : c ≤ 122
    · go_enter Tryz.func181, Tryz.ntmps181
      go_wp2
      go_ret
      exact ⟨ret_b (by simp [a, b]), rfl⟩
    · have d : ¬ c ≤ 90 := by omega
      have f : 65 ≤ c := by omega
      go_enter Tryz.func181, Tryz.ntmps181
      go_wp2
      go_ret
      exact ⟨ret_b (by simp [b, d]), rfl⟩
  · by_cases f : 65 ≤ c
    · by_cases d : c ≤ 90
      · go_enter Tryz.func181, Tryz.ntmps181
        go_wp2
        go_ret
        exact ⟨ret_b (by simp), rfl⟩
      · go_enter Tryz.func181, Tryz.ntmps181
        go_wp2
        go_ret
        exact ⟨ret_b (by simp [d]; omega), rfl⟩
    · go_enter Tryz.func181, Tryz.ntmps181
      go_wp2
      go_ret
      exact ⟨ret_b (by simp; omega), rfl⟩

set_option maxHeartbeats 4000000 in
theorem tokenByte_any (c : Int) (w : World) (h0 : 0 ≤ c) (h1 : c < 256) : Calls Tryz.prog 152 #[.int .u8 c] w fun e w' => e = .returned (.bool (tokP c)) ∧ w' = w := by
  by_cases k0 : c = 33
  · subst k0
    go_enter Tryz.func152, Tryz.ntmps152
    go_wp2
    go_ret
    exact ⟨ret_b (by decide +kernel), rfl⟩
  by_cases k1 : c = 35
  · subst k1
    go_enter Tryz.func152, Tryz.ntmps152
    go_wp2
    go_ret
    exact ⟨ret_b (by decide +kernel), rfl⟩
  by_cases k2 : c = 36
  · subst k2
    go_enter Tryz.func152, Tryz.ntmps152
    go_wp2
    go_ret
    exact ⟨ret_b (by decide +kernel), rfl⟩
  by_cases k3 : c = 37
  · subst k3
    go_enter Tryz.func152, Tryz.ntmps152
    go_wp2
    go_ret
    exact ⟨ret_b (by decide +kernel), rfl⟩
  by_cases k4 : c = 38
  · subst k4
    go_enter Tryz.func152, Tryz.ntmps152
    go_wp2
    go_ret
    exact ⟨ret_b (by decide +kernel), rfl⟩
  by_cases k5 : c = 39
  · subst k5
    go_enter Tryz.func152, Tryz.ntmps152
    go_wp2
    go_ret
    exact ⟨ret_b (by decide +kernel), rfl⟩
  by_cases k6 : c = 42
  · subst k6
    go_enter Tryz.func152, Tryz.ntmps152
    go_wp2
    go_ret
    exact ⟨ret_b (by decide +kernel), rfl⟩
  by_cases k7 : c = 43
  · subst k7
    go_enter Tryz.func152, Tryz.ntmps152
    go_wp2
    go_ret
    exact ⟨ret_b (by decide +kernel), rfl⟩
  by_cases k8 : c = 45
  · subst k8
    go_enter Tryz.func152, Tryz.ntmps152
    go_wp2
    go_ret
    exact ⟨ret_b (by decide +kernel), rfl⟩
  by_cases k9 : c = 46
  · subst k9
    go_enter Tryz.func152, Tryz.ntmps152
    go_wp2
    go_ret
    exact ⟨ret_b (by decide +kernel), rfl⟩
  by_cases k10 : c = 94
  · subst k10
    go_enter Tryz.func152, Tryz.ntmps152
    go_wp2
    go_ret
    exact ⟨ret_b (by decide +kernel), rfl⟩
  by_cases k11 : c = 95
  · subst k11
    go_enter Tryz.func152, Tryz.ntmps152
    go_wp2
    go_ret
    exact ⟨ret_b (by decide +kernel), rfl⟩
  by_cases k12 : c = 96
  · subst k12
    go_enter Tryz.func152, Tryz.ntmps152
    go_wp2
    go_ret
    exact ⟨ret_b (by decide +kernel), rfl⟩
  by_cases k13 : c = 124
  · subst k13
    go_enter Tryz.func152, Tryz.ntmps152
    go_wp2
    go_ret
    exact ⟨ret_b (by decide +kernel), rfl⟩
  by_cases k14 : c = 126
  · subst k14
    go_enter Tryz.func152, Tryz.ntmps152
    go_wp2
    go_ret
    exact ⟨ret_b (by decide +kernel), rfl⟩
  have E : Hid (tokP c = (letP c || spanP 48 57 c)) := by rw [Hid, tok_iff c h0 h1]; simp [tokL, k0, k1, k2, k3, k4, k5, k6, k7, k8, k9, k10, k11, k12, k13, k14]
  have m0 : (c == 33) = false := beq_eq_false_iff_ne.2 k0
  have m1 : (c == 35) = false := beq_eq_false_iff_ne.2 k1
  have m2 : (c == 36) = false := beq_eq_false_iff_ne.2 k2
  have m3 : (c == 37) = false := beq_eq_false_iff_ne.2 k3
  have m4 : (c == 38) = false := beq_eq_false_iff_ne.2 k4
  have m5 : (c == 39) = false := beq_eq_false_iff_ne.2 k5
  have m6 : (c == 42) = false := beq_eq_false_iff_ne.2 k6
  have m7 : (c == 43) = false := beq_eq_false_iff_ne.2 k7
  have m8 : (c == 45) = false := beq_eq_false_iff_ne.2 k8
  have m9 : (c == 46) = false := beq_eq_false_iff_ne.2 k9
  have m10 : (c == 94) = false := beq_eq_false_iff_ne.2 k10
  have m11 : (c == 95) = false := beq_eq_false_iff_ne.2 k11
  have m12 : (c == 96) = false := beq_eq_false_iff_ne.2 k12
  have m13 : (c == 124) = false := beq_eq_false_iff_ne.2 k13
  have m14 : (c == 126) = false := beq_eq_false_iff_ne.2 k14
  rw [E.out]
  clear E k0 k1 k2 k3 k4 k5 k6 k7 k8 k9 k10 k11 k12 k13 k14
  cases hl : letP c
  · have HL : Hid (letP c = false) := hl
    clear hl
    go_enter Tryz.func152, Tryz.ntmps152
    go_wp2_with fail
    refine (letter_any c _).mono ?_
    rw [HL.out]
    rintro e w1 ⟨rfl, rfl⟩
    go_wp2_with fail
    refine (rdig_any c _).mono ?_
    rintro e w1 ⟨rfl, rfl⟩
    go_wp2
    go_ret
    exact ⟨ret_b (by simp), rfl⟩
  · have HL : Hid (letP c = true) := hl
    clear hl
    go_enter Tryz.func152, Tryz.ntmps152
    go_wp2_with fail
    refine (letter_any c _).mono ?_
    rw [HL.out]
    rintro e w1 ⟨rfl, rfl⟩
    go_wp2
    go_ret
    exact ⟨ret_b (by simp), rfl⟩
end Go.Proofs.YtemmmdhmkegaaaaGreatDoor

/- The reference's loops; then Token, Value and Target themselves. -/
namespace Go.Proofs.YtemmmdhmkegaaaaGreatDoor
open Go.RowKit
set_option linter.unusedVariables false

set_option maxHeartbeats 1000000 in
theorem rToken_any (s : ByteArray) (w : World) (hs : s.size ≤ maxLen) :
    Calls Tryz.prog 119 #[.string s] w fun e w' => e = .returned (.bool (allB tokP s.data.toList && decide (0 < s.size))) ∧ w' = w := by
  unfold maxLen at hs
  go_enter Tryz.func119, Tryz.ntmps119
  go_wp2
  go_loop [3] (fun i => ∃ k : Nat, k ≤ s.size ∧ i = .int .i64 k ∧ Hid (allB tokP (s.data.toList.take k) = true)) (fun i => s.size - (intOf i).toNat)
  case atStart => exact ⟨0, Nat.zero_le _, rfl, rfl⟩
  case round =>
    obtain ⟨k, hk, rfl, hA⟩ := hrel
    by_cases hlt : k < s.size
    · have bd := byte_bd s[k]
      go_wp2_with fail
      refine (tokenByte_any _ _ bd.1 bd.2).mono ?_
      rintro e w' ⟨rfl, rfl⟩
      cases hpc : tokP (s[k].toNat : Int)
      · have HC : Hid (tokP (s[k].toNat : Int) = false) := hpc
        clear hpc
        go_wp2
        go_ret
        exact ⟨ret_b (by rw [allB_false s k hlt HC.out]; rfl), rfl⟩
      · have HC : Hid (tokP (s[k].toNat : Int) = true) := hpc
        clear hpc
        go_wp2
        go_round
        case rel => exact ⟨k + 1, by omega, by go_num, allB_snoc s k hlt hA.out HC.out⟩
        case measure => simp [intOf]; omega
    · go_wp2
      go_ret
      have hk' : k = s.size := by omega
      subst hk'
      exact ⟨ret_b (by have h := hA.out; rw [List.take_of_length_le (by simp)] at h; rw [h]; simp), rfl⟩


end Go.Proofs.YtemmmdhmkegaaaaGreatDoor

/- The reference's Trim. -/
namespace Go.Proofs.YtemmmdhmkegaaaaGreatDoor
open Go.RowKit
set_option linter.unusedVariables false

theorem ret_bT {x y : Bool} (h : x = y) : Ending.returned (.bool x) = .returned (.bool y) := by rw [h]
theorem ret_sT {x y : ByteArray} (h : x = y) : Ending.returned (.string x) = .returned (.string y) := by rw [h]
def szOf (v : Value) : Nat := match v with | .string x => x.size | _ => 0
theorem blk_eq (b : UInt8) : blk b = (decide ((b.toNat : Int) = 32) || decide ((b.toNat : Int) = 9)) := by
  have h : ∀ n : Nat, n < 256 → blk (UInt8.ofNat n) = (decide (((UInt8.ofNat n).toNat : Int) = 32) || decide (((UInt8.ofNat n).toNat : Int) = 9)) := by decide +kernel
  have k := h b.toNat b.toNat_lt
  rwa [UInt8.ofNat_toNat] at k
theorem blank_any (b : UInt8) (w : World) : Calls Tryz.prog 182 #[.int .u8 (b.toNat : Int)] w fun e w' => e = .returned (.bool (blk b)) ∧ w' = w := by
  have hb := blk_eq b
  have hlt := b.toNat_lt
  by_cases h1 : (b.toNat : Int) = 32
  · have HB : Hid (true = blk b) := by rw [Hid, hb]; simp [h1]
    clear hb
    go_enter Tryz.func182, Tryz.ntmps182
    go_wp2
    go_ret
    exact ⟨ret_bT HB.out, rfl⟩
  · by_cases h2 : (b.toNat : Int) = 9
    · have HB : Hid (true = blk b) := by rw [Hid, hb]; simp [h2]
      have n1 : ((b.toNat : Int) == 32) = false := beq_eq_false_iff_ne.2 h1
      clear hb
      go_enter Tryz.func182, Tryz.ntmps182
      go_wp2
      go_ret
      exact ⟨ret_bT HB.out, rfl⟩
    · have HB : Hid (false = blk b) := by rw [Hid, hb, decide_eq_false h1, decide_eq_false h2]; rfl
      have n1 : ((b.toNat : Int) == 32) = false := beq_eq_false_iff_ne.2 h1
      have n2 : ((b.toNat : Int) == 9) = false := beq_eq_false_iff_ne.2 h2
      clear hb
      go_enter Tryz.func182, Tryz.ntmps182
      go_wp2
      go_ret
      exact ⟨ret_bT HB.out, rfl⟩

def Lft (s x : ByteArray) : Prop := ∃ a : List UInt8, (∀ b ∈ a, blk b = true) ∧ s.data.toList = a ++ x.data.toList
def Mid (s y : ByteArray) : Prop := ∃ a q : List UInt8, (∀ b ∈ a, blk b = true) ∧ (∀ b ∈ q, blk b = true) ∧ s.data.toList = a ++ y.data.toList ++ q ∧ NF y.data.toList
theorem ext_data (x : ByteArray) (i j : Nat) : (x.extract i j).data.toList = (x.data.toList.take j).drop i := by
  rw [Lib.extract_data, List.drop_take]
theorem Lft.mid {s x : ByteArray} (h : Lft s x) (hf : NF x.data.toList) : Mid s x := by
  obtain ⟨a, ha, e⟩ := h
  exact ⟨a, [], ha, (fun _ h => by cases h), by rw [List.append_nil]; exact e, hf⟩
theorem first_t {x : ByteArray} (h : 0 < x.size) : x.data.toList = x[0] :: x.data.toList.drop 1 := by
  have h' : 0 < x.data.toList.length := h
  have e := List.drop_eq_getElem_cons h'
  rw [List.drop_zero] at e
  exact e
theorem last_t {y : ByteArray} {n : Nat} (hn : y.size = n + 1) : y.data.toList.getLast? = some (y[n]'(by omega)) := by
  have hl : y.data.toList.length = n + 1 := hn
  rw [List.getLast?_eq_getElem?, hl, Nat.add_sub_cancel, List.getElem?_eq_getElem (by omega)]
  rfl
theorem take_t {y : ByteArray} {n : Nat} (hn : y.size = n + 1) : y.data.toList = y.data.toList.take n ++ [y[n]'(by omega)] := by
  have hl : y.data.toList.length = n + 1 := hn
  have e := List.take_succ_eq_append_getElem (l := y.data.toList) (i := n) (by omega)
  rw [List.take_of_length_le (by omega)] at e
  exact e
theorem Lft.cut {s x : ByteArray} (h : Lft s x) (hp : 0 < x.size) (hb : blk x[0] = true) : Lft s (x.extract 1 x.size) := by
  obtain ⟨a, ha, e⟩ := h
  refine ⟨a ++ [x[0]], fun b hm => ?_, ?_⟩
  · rcases List.mem_append.1 hm with hm | hm
    · exact ha b hm
    · rw [List.mem_singleton.1 hm]; exact hb
  · rw [ext_data, List.take_of_length_le (show x.data.toList.length ≤ x.size from Nat.le_refl _), e, List.append_assoc, List.singleton_append, ← first_t hp]
theorem Mid.cut {s y : ByteArray} {n : Nat} (h : Mid s y) (hn : y.size = n + 1) (hb : blk (y[n]'(by omega)) = true) : Mid s (y.extract 0 n) := by
  obtain ⟨a, q, ha, hq, e, hf⟩ := h
  refine ⟨a, (y[n]'(by omega)) :: q, ha, fun b hm => ?_, ?_, ?_⟩
  · cases hm with
    | head => exact hb
    | tail _ hm => exact hq b hm
  · rw [ext_data, List.drop_zero, e]
    conv => lhs; rw [take_t hn]
    simp
  · rw [ext_data, List.drop_zero]
    intro b hb'
    refine hf b ?_
    rw [take_t hn]
    cases hq2 : y.data.toList.take n with
    | nil => rw [hq2] at hb'; simp at hb'
    | cons c r => rw [hq2] at hb'; exact hb'
theorem Mid.fin {s y : ByteArray} (h : Mid s y) (hl : NL y.data.toList) : y = trimT s := by
  obtain ⟨a, q, ha, hq, e, hf⟩ := h
  refine bytes_eq ?_
  unfold trimT
  rw [e]
  exact (trim_around a _ q ha hq hf hl).symm

set_option maxRecDepth 100000 in
set_option maxHeartbeats 4000000 in
theorem rtrim_any (s : ByteArray) (w : World) (hs : s.size ≤ 140737488355328) : Calls Tryz.prog 153 #[.string s] w fun e w' => e = .returned (.string (trimT s)) ∧ w' = w := by
  go_enter Tryz.func153, Tryz.ntmps153
  go_wp2_with fail
  go_loopw [0] (fun v wr => ∃ x : ByteArray, v = .string x ∧ Hid (Lft s x) ∧ x.size ≤ s.size ∧ Hid (wr = w)) (fun v _ => szOf v)
  case atStart => exact ⟨s, rfl, ⟨[], (fun _ h => by cases h), rfl⟩, Nat.le_refl _, rfl⟩
  case round =>
    obtain ⟨x, rfl, hl, hxs, hB⟩ := hrel
    by_cases hz : x.size = 0
    · have h0 : ¬ (0 : Int) < (x.size : Int) := by omega
      have HM : Hid (Mid s x) := hl.out.mid (fun b hb => by rw [empty_t hz] at hb; cases hb)
      clear hz hl
      go_wp2_with fail
      clear h0
      go_loopw [0] (fun v wr => ∃ y : ByteArray, v = .string y ∧ Hid (Mid s y) ∧ y.size ≤ s.size ∧ Hid (wr = w)) (fun v _ => szOf v)
      case atStart => exact ⟨x, rfl, HM, hxs, hB⟩
      case round =>
        obtain ⟨y, rfl, hmid, hys, hB2⟩ := hrel
        clear hB HM
        by_cases hz2 : y.size = 0
        · have HE : Hid (y = trimT s) := hmid.out.fin (fun b hb => by rw [empty_t hz2] at hb; cases hb)
          have h0 : ¬ (0 : Int) < (y.size : Int) := by omega
          clear hz2
          go_wp2
          go_ret
          exact ⟨ret_sT HE.out, hB2.out⟩
        · obtain ⟨n, hn⟩ : ∃ n, y.size = n + 1 := ⟨y.size - 1, by omega⟩
          have h0 : (0 : Int) < (y.size : Int) := by omega
          have hi : (y.size : Int) - 1 = (n : Int) := by omega
          have hlt : n < y.size := by omega
          clear hz2
          go_wp2_with fail
          refine (blank_any y[n] _).mono ?_
          rintro e w3 ⟨rfl, rfl⟩
          by_cases hb : blk y[n] = true
          · have HM2 : Hid (Mid s (y.extract 0 n)) := hmid.out.cut hn hb
            have hsz2 : (y.extract 0 n).size = n := by rw [ByteArray.size_extract]; omega
            go_wp2
            go_roundw
            case rel => exact ⟨_, rfl, HM2, by omega, hB2⟩
            case measure => simp only [szOf]; omega
          · have HE : Hid (y = trimT s) := hmid.out.fin (fun b hb' => by
              rw [last_t hn] at hb'
              rw [← Option.some.inj hb']; simpa using hb)
            have hb0 : blk y[n] = false := by simpa using hb
            go_wp2
            go_ret
            exact ⟨ret_sT HE.out, hB2.out⟩
    · have h0 : (0 : Int) < (x.size : Int) := by omega
      have hp : 0 < x.size := by omega
      clear hz
      go_wp2_with fail
      refine (blank_any x[0] _).mono ?_
      rintro e w2 ⟨rfl, rfl⟩
      by_cases hb : blk x[0] = true
      · have HM2 : Hid (Lft s (x.extract 1 x.size)) := hl.out.cut hp hb
        have hsz2 : (x.extract 1 x.size).size = x.size - 1 := by rw [ByteArray.size_extract]; omega
        go_wp2
        go_roundw
        case rel => exact ⟨_, rfl, HM2, by omega, hB⟩
        case measure => simp only [szOf]; omega
      · have HM : Hid (Mid s x) := hl.out.mid (fun b hb' => by
          rw [first_t hp] at hb'
          rw [← Option.some.inj hb']; simpa using hb)
        have hb0 : blk x[0] = false := by simpa using hb
        clear hl hb
        go_wp2_with fail
        clear h0 hb0
        go_loopw [0] (fun v wr => ∃ y : ByteArray, v = .string y ∧ Hid (Mid s y) ∧ y.size ≤ s.size ∧ Hid (wr = w)) (fun v _ => szOf v)
        case atStart => exact ⟨x, rfl, HM, hxs, hB⟩
        case round =>
          obtain ⟨y, rfl, hmid, hys, hB2⟩ := hrel
          clear hB HM
          by_cases hz2 : y.size = 0
          · have HE : Hid (y = trimT s) := hmid.out.fin (fun b hb => by rw [empty_t hz2] at hb; cases hb)
            have h0 : ¬ (0 : Int) < (y.size : Int) := by omega
            clear hz2
            go_wp2
            go_ret
            exact ⟨ret_sT HE.out, hB2.out⟩
          · obtain ⟨n, hn⟩ : ∃ n, y.size = n + 1 := ⟨y.size - 1, by omega⟩
            have h0 : (0 : Int) < (y.size : Int) := by omega
            have hi : (y.size : Int) - 1 = (n : Int) := by omega
            have hlt : n < y.size := by omega
            clear hz2
            go_wp2_with fail
            refine (blank_any y[n] _).mono ?_
            rintro e w3 ⟨rfl, rfl⟩
            by_cases hb : blk y[n] = true
            · have HM2 : Hid (Mid s (y.extract 0 n)) := hmid.out.cut hn hb
              have hsz2 : (y.extract 0 n).size = n := by rw [ByteArray.size_extract]; omega
              go_wp2
              go_roundw
              case rel => exact ⟨_, rfl, HM2, by omega, hB2⟩
              case measure => simp only [szOf]; omega
            · have HE : Hid (y = trimT s) := hmid.out.fin (fun b hb' => by
                rw [last_t hn] at hb'
                rw [← Option.some.inj hb']; simpa using hb)
              have hb0 : blk y[n] = false := by simpa using hb
              go_wp2
              go_ret
              exact ⟨ret_sT HE.out, hB2.out⟩
end Go.Proofs.YtemmmdhmkegaaaaGreatDoor

/- The reference's Digit and Value. -/
namespace Go.Proofs.YtemmmdhmkegaaaaGreatDoor
open Go.RowKit
set_option linter.unusedVariables false

theorem val_iff (c : Int) (h0 : 0 ≤ c) (h1 : c < 256) : valP c = !((decide (c < 32) && !decide (c = 9)) || decide (c = 127)) :=
  byte_all (P := fun c => valP c = !((decide (c < 32) && !decide (c = 9)) || decide (c = 127))) (by decide +kernel) c h0 h1

set_option maxHeartbeats 1000000 in
theorem rValue_any (s : ByteArray) (w : World) (hs : s.size ≤ maxLen) :
    Calls Tryz.prog 156 #[.string s] w fun e w' => e = .returned (.bool (allB valP s.data.toList)) ∧ w' = w := by
  unfold maxLen at hs
  go_enter Tryz.func156, Tryz.ntmps156
  go_wp2
  go_loop [3] (fun i => ∃ k : Nat, k ≤ s.size ∧ i = .int .i64 k ∧ Hid (allB valP (s.data.toList.take k) = true)) (fun i => s.size - (intOf i).toNat)
  case atStart => exact ⟨0, Nat.zero_le _, rfl, rfl⟩
  case round =>
    obtain ⟨k, hk, rfl, hA⟩ := hrel
    by_cases hlt : k < s.size
    · have bd := byte_bd s[k]
      have hv : Hid (valP (s[k].toNat : Int) = _) := val_iff _ bd.1 bd.2
      by_cases a : (s[k].toNat : Int) < 32
      · by_cases b : (s[k].toNat : Int) = 9
        · have HC : Hid (valP (s[k].toNat : Int) = true) := by rw [Hid, b]; decide +kernel
          have b1 : ((s[k].toNat : Int) != 9) = false := by simp [b]
          have b2 : ((s[k].toNat : Int) == 127) = false := by simp [b]
          clear b hv
          go_wp2
          go_round
          case rel => exact ⟨k + 1, by omega, by go_num, allB_snoc s k hlt hA.out HC.out⟩
          case measure => simp [intOf]; omega
        · have HC : Hid (valP (s[k].toNat : Int) = false) := by rw [Hid, hv.out]; simp [a, b]
          have b1 : ((s[k].toNat : Int) != 9) = true := by simp [b]
          clear b hv
          go_wp2
          go_ret
          exact ⟨ret_b (allB_false s k hlt HC.out).symm, rfl⟩
      · by_cases b : (s[k].toNat : Int) = 127
        · have HC : Hid (valP (s[k].toNat : Int) = false) := by rw [Hid, hv.out]; simp [b]
          have b2 : ((s[k].toNat : Int) == 127) = true := by simp [b]
          clear b hv
          go_wp2
          go_ret
          exact ⟨ret_b (allB_false s k hlt HC.out).symm, rfl⟩
        · have HC : Hid (valP (s[k].toNat : Int) = true) := by rw [Hid, hv.out]; simp [a, b]
          have b2 : ((s[k].toNat : Int) == 127) = false := by simp [b]
          clear b hv
          go_wp2
          go_round
          case rel => exact ⟨k + 1, by omega, by go_num, allB_snoc s k hlt hA.out HC.out⟩
          case measure => simp [intOf]; omega
    · go_wp2
      go_ret
      have hk' : k = s.size := by omega
      subst hk'
      exact ⟨ret_b (by have h := hA.out; rw [List.take_of_length_le (by simp)] at h; exact h.symm), rfl⟩

end Go.Proofs.YtemmmdhmkegaaaaGreatDoor

/- The reference's fields: which are right; a line read. -/
namespace Go.Proofs.YtemmmdhmkegaaaaGreatDoor
open Go.RowKit
set_option linter.unusedVariables false

set_option maxRecDepth 100000 in
set_option maxHeartbeats 4000000 in
theorem r4one_any (n v : ByteArray) (w : World) (hn : n.size ≤ 140737488355328) (hv : v.size ≤ 140737488355328) : Calls Tryz.prog 154 #[.agg #[.string n, .string v]] w fun e w' => e = .returned (.bool (okF n v)) ∧ Below w.heap.size w w' := by
  unfold okF okName okVal eqT
  have HT : Hid (∀ w, Calls Tryz.prog 119 #[.string n] w fun e w' => e = .returned (.bool (allB tokP n.data.toList && decide (0 < n.size))) ∧ w' = w) := fun w => rToken_any n w (by unfold maxLen; omega)
  have HV : Hid (∀ w, Calls Tryz.prog 156 #[.string v] w fun e w' => e = .returned (.bool (allB valP v.data.toList)) ∧ w' = w) := fun w => rValue_any v w (by unfold maxLen; omega)
  have HR : Hid (∀ w, Calls Tryz.prog 153 #[.string v] w fun e w' => e = .returned (.string (trimT v)) ∧ w' = w) := fun w => rtrim_any v w hv
  generalize (allB tokP n.data.toList && decide (0 < n.size)) = t at *
  generalize allB valP v.data.toList = u at *
  generalize trimT v = T at *
  clear hn hv
  cases t
  · rw [Bool.and_false, Bool.false_and]
    clear HV HR
    go_enter Tryz.func154, Tryz.ntmps154
    go_wp2
    go_quiet (first | (go_at_call 119; exact Calls.quiet_of_same (HT.out _)) | (go_at_call 156; exact Calls.quiet_of_same (HV.out _)) | (go_at_call 153; exact Calls.quiet_of_same (HR.out _)))
    go_wp2
    go_ret
    exact ⟨by rfl, ((Below.refl _ _).alloc (Nat.le_refl _) _).trans (below_drewN _ _ _)⟩
  · rw [Bool.and_true]
    by_cases h1 : n.size ≤ 100
    · have k1 : (n.size : Int) ≤ 100 := by omega
      rw [decide_eq_true h1, Bool.true_and]
      cases u
      · rw [Bool.and_false, Bool.false_and]
        clear HR h1
        go_enter Tryz.func154, Tryz.ntmps154
        go_wp2
        go_quiet (first | (go_at_call 119; exact Calls.quiet_of_same (HT.out _)) | (go_at_call 156; exact Calls.quiet_of_same (HV.out _)) | (go_at_call 153; exact Calls.quiet_of_same (HR.out _)))
        go_wp2
        go_ret
        exact ⟨by rfl, ((Below.refl _ _).alloc (Nat.le_refl _) _).trans (below_drewN _ _ _)⟩
      · rw [Bool.and_true]
        by_cases he : T.toList == v.toList
        · rw [he, Bool.and_true]
          by_cases h2 : v.size ≤ 1000
          · have k2 : (v.size : Int) ≤ 1000 := by omega
            rw [decide_eq_true h2]
            clear h1 h2
            go_enter Tryz.func154, Tryz.ntmps154
            go_wp2
            go_quiet (first | (go_at_call 119; exact Calls.quiet_of_same (HT.out _)) | (go_at_call 156; exact Calls.quiet_of_same (HV.out _)) | (go_at_call 153; exact Calls.quiet_of_same (HR.out _)))
            go_wp2
            go_ret
            exact ⟨by rfl, ((Below.refl _ _).alloc (Nat.le_refl _) _).trans (below_drewN _ _ _)⟩
          · have k2 : decide ((v.size : Int) ≤ 1000) = false := decide_eq_false (by omega)
            rw [decide_eq_false h2]
            clear h1 h2
            go_enter Tryz.func154, Tryz.ntmps154
            go_wp2
            go_quiet (first | (go_at_call 119; exact Calls.quiet_of_same (HT.out _)) | (go_at_call 156; exact Calls.quiet_of_same (HV.out _)) | (go_at_call 153; exact Calls.quiet_of_same (HR.out _)))
            go_wp2
            go_ret
            exact ⟨by rfl, ((Below.refl _ _).alloc (Nat.le_refl _) _).trans (below_drewN _ _ _)⟩
        · have he' : (T.toList == v.toList) = false := by simpa using he
          rw [he', Bool.and_false]
          clear h1 he
          go_enter Tryz.func154, Tryz.ntmps154
          go_wp2
          go_quiet (first | (go_at_call 119; exact Calls.quiet_of_same (HT.out _)) | (go_at_call 156; exact Calls.quiet_of_same (HV.out _)) | (go_at_call 153; exact Calls.quiet_of_same (HR.out _)))
          go_wp2
          go_ret
          exact ⟨by rfl, ((Below.refl _ _).alloc (Nat.le_refl _) _).trans (below_drewN _ _ _)⟩
    · have k1 : decide ((n.size : Int) ≤ 100) = false := decide_eq_false (by omega)
      rw [decide_eq_false h1, Bool.false_and]
      clear HV HR h1
      go_enter Tryz.func154, Tryz.ntmps154
      go_wp2
      go_quiet (first | (go_at_call 119; exact Calls.quiet_of_same (HT.out _)) | (go_at_call 156; exact Calls.quiet_of_same (HV.out _)) | (go_at_call 153; exact Calls.quiet_of_same (HR.out _)))
      go_wp2
      go_ret
      exact ⟨by rfl, ((Below.refl _ _).alloc (Nat.le_refl _) _).trans (below_drewN _ _ _)⟩

end Go.Proofs.YtemmmdhmkegaaaaGreatDoor

/- Where a line's colon stands. -/
namespace Go.Proofs.YtemmmdhmkegaaaaGreatDoor
open Go.RowKit
set_option linter.unusedVariables false

theorem index_at : ∀ (l : List UInt8) (k : Nat), (∀ b ∈ l.take k, b ≠ 58) → l[k]? = some 58 → Lib.index l [58] = k
  | [], k, _, h => by simp at h
  | b :: l, 0, _, h => by
    have : b = 58 := by simpa using h
    subst this
    simp [Lib.index, List.isPrefixOf]
  | b :: l, k + 1, hn, h => by
    have hb : b ≠ 58 := hn b (by simp)
    have ih := index_at l k (fun c hc => hn c (by rw [List.take_succ_cons]; exact .tail _ hc)) (by simpa using h)
    have hp : ([58] : List UInt8).isPrefixOf (b :: l) = false := by simp [List.isPrefixOf, Ne.symm hb]
    rw [Lib.index, hp, ih, if_neg (by decide), if_neg (by simp)]
    omega
theorem index_no : ∀ (l : List UInt8), (∀ b ∈ l, b ≠ 58) → Lib.index l [58] = -1
  | [], _ => by simp [Lib.index]
  | b :: l, hn => by
    have hb : b ≠ 58 := hn b (.head _)
    have ih := index_no l (fun c hc => hn c (.tail _ hc))
    have hp : ([58] : List UInt8).isPrefixOf (b :: l) = false := by simp [List.isPrefixOf, Ne.symm hb]
    rw [Lib.index, hp, ih]
    simp
theorem prs_no (s : ByteArray) (h : ∀ b ∈ s.data.toList, b ≠ 58) : prs s = (⟨#[]⟩, ⟨#[]⟩, 20) := by
  unfold prs Lib.cut
  rw [index_no _ h]
  simp
theorem prs_at (s : ByteArray) (k : Nat) (hk : k < s.size) (h : ∀ b ∈ s.data.toList.take k, b ≠ 58) (hb : s[k] = 58) :
    prs s = if okF (s.extract 0 k) (trimT (s.extract (k + 1) s.size)) then (s.extract 0 k, trimT (s.extract (k + 1) s.size), 0) else (⟨#[]⟩, ⟨#[]⟩, 20) := by
  have hk' : k < s.data.toList.length := hk
  have hi := index_at s.data.toList k h (by rw [List.getElem?_eq_getElem hk']; exact congrArg some hb)
  have e1 : (⟨(s.data.toList.take k).toArray⟩ : ByteArray) = s.extract 0 k := bytes_eq (by rw [ext_data]; simp)
  have e2 : (⟨(s.data.toList.drop (k + 1)).toArray⟩ : ByteArray) = s.extract (k + 1) s.size := bytes_eq (by rw [ext_data, List.take_of_length_le (show s.data.toList.length ≤ s.size from Nat.le_refl _)])
  have hc : Lib.cut s.data.toList [58] = (s.data.toList.take k, s.data.toList.drop (k + 1), true) := by
    unfold Lib.cut
    rw [hi, if_pos (by omega)]
    rfl
  unfold prs
  rw [hc]
  simp only [Bool.true_and, e1, e2]

end Go.Proofs.YtemmmdhmkegaaaaGreatDoor

/- The reference's fields: which are right; a line read. -/
namespace Go.Proofs.YtemmmdhmkegaaaaGreatDoor
open Go.RowKit
set_option linter.unusedVariables false

set_option maxRecDepth 100000 in
set_option maxHeartbeats 4000000 in
theorem rparse_any (s : ByteArray) (w : World) (hs : s.size < 4294967281) : Calls Tryz.prog 122 #[.string s] w fun e w' => e = .returned (.tuple #[.agg #[.string (prs s).1, .string (prs s).2.1], .bool (decide ((prs s).2.2 = 0))]) ∧ Below w.heap.size w w' := by
  go_enter Tryz.func122, Tryz.ntmps122
  go_wp2_with fail
  go_loopw [4] (fun vi wr => ∃ k : Nat, k ≤ s.size ∧ vi = .int .i64 k ∧ Hid (∀ b ∈ s.data.toList.take k, b ≠ 58) ∧ wr.heap[w.heap.size]? = some (.cells #[.string ⟨#[]⟩, .string ⟨#[]⟩] 121) ∧ Below w.heap.size w wr) (fun vi _ => s.size - (intOf vi).toNat)
  case atStart => exact ⟨0, Nat.zero_le _, rfl, (fun b hb => by simp at hb), tblk_new _ _, (Below.refl _ _).alloc (Nat.le_refl _) _⟩
  case round =>
    obtain ⟨k, hk, rfl, hno, hg, hB⟩ := hrel
    have a0 : wr.cell? ⟨w.heap.size, 0, none⟩ = some (.string ⟨#[]⟩) := tblk_cell hg rfl
    have a1 : wr.cell? ⟨w.heap.size, 1, none⟩ = some (.string ⟨#[]⟩) := tblk_cell hg rfl
    have z0 : wr.frozen? ⟨w.heap.size, 0, none⟩ = false := tblk_z hg
    have z1 : wr.frozen? ⟨w.heap.size, 1, none⟩ = false := tblk_z hg
    by_cases hlt : k < s.size
    · by_cases hb : (s[k].toNat : Int) = 58
      · have hb' : s[k] = 58 := by
          apply UInt8.toNat_inj.1
          show s[k].toNat = 58
          omega
        have HP : Hid (prs s = if okF (s.extract 0 k) (trimT (s.extract (k + 1) s.size)) then (s.extract 0 k, trimT (s.extract (k + 1) s.size), 0) else (⟨#[]⟩, ⟨#[]⟩, 20)) := prs_at s k hlt hno.out hb'
        have hx1 : Hid ((s.extract 0 k).size ≤ 140737488355328) := by rw [Hid, ByteArray.size_extract]; omega
        have hx2 : Hid ((s.extract (k + 1) s.size).size ≤ 140737488355328) := by rw [Hid, ByteArray.size_extract]; omega
        have hx3 : Hid ((trimT (s.extract (k + 1) s.size)).size ≤ 140737488355328) := by rw [Hid]; have := hx2.out; have := trimT_size (s.extract (k + 1) s.size); omega
        have HR : Hid (∀ w, Calls Tryz.prog 153 #[.string (s.extract (k + 1) s.size)] w fun e w' => e = .returned (.string (trimT (s.extract (k + 1) s.size))) ∧ w' = w) := fun w => rtrim_any _ w hx2.out
        have HO : Hid (∀ w, Calls Tryz.prog 154 #[.agg #[.string (s.extract 0 k), .string (trimT (s.extract (k + 1) s.size))]] w fun e w' => e = .returned (.bool (okF (s.extract 0 k) (trimT (s.extract (k + 1) s.size)))) ∧ Below w.heap.size w w') := fun w => r4one_any _ _ w hx1.out hx3.out
        generalize trimT (s.extract (k + 1) s.size) = T at *
        have q1 : (k : Int) + 1 ≤ (s.size : Int) := by omega
        have q2 : (0 : Int) ≤ (k : Int) + 1 := by omega
        have q3 : (k : Int) ≤ (s.size : Int) := by omega
        have q4 : IntKind.i64.wrap ((k : Int) + 1) = (k : Int) + 1 := by rw [IntKind.wrap_i64]; omega
        have q5 : ((k : Int) + 1).toNat = k + 1 := by omega
        go_wp2
        go_region_held3 (fun _ => True) (go_keep) (first | (go_at_call 153; refine (HR.out _).mono ?_; rintro e w' ⟨rfl, rfl⟩))
        all_goals
          have gW : ((wr.alloc (.cells #[.string (s.extract 0 k), .string T] 121)).drew).heap[w.heap.size]? = some (.cells #[.string ⟨#[]⟩, .string ⟨#[]⟩] 121) := (Below.heap_alloc _ _ _ (Array.getElem?_eq_some_iff.1 hg).1).trans hg
          have fW : ((wr.alloc (.cells #[.string (s.extract 0 k), .string T] 121)).drew).heap[wr.heap.size]? = some (.cells #[.string (s.extract 0 k), .string T] 121) := tblk_new _ _
          have CW : Below w.heap.size w ((wr.alloc (.cells #[.string (s.extract 0 k), .string T] 121)).drew) := (hB.alloc hB.size _).drew
          generalize (wr.alloc (.cells #[.string (s.extract 0 k), .string T] 121)).drew = W at *
          clear a0 a1 z0 z1 hg hB
          have b0 : W.cell? ⟨wr.heap.size, 0, none⟩ = some (.string (s.extract 0 k)) := tblk_cell fW rfl
          have b1 : W.cell? ⟨wr.heap.size, 1, none⟩ = some (.string T) := tblk_cell fW rfl
          generalize s.extract 0 k = nm at *
          generalize okF nm T = ok at *
          go_wp2_with fail
          refine (HO.out _).mono ?_
          rintro e w5 ⟨rfl, B5⟩
          have g5 := tblk_below gW B5
          have f5 := tblk_below fW B5
          have C5 := CW.trans (B5.mono CW.size)
          clear b0 b1 gW fW CW B5
          have a0 : w5.cell? ⟨w.heap.size, 0, none⟩ = some (.string ⟨#[]⟩) := tblk_cell g5 rfl
          have a1 : w5.cell? ⟨w.heap.size, 1, none⟩ = some (.string ⟨#[]⟩) := tblk_cell g5 rfl
          have b0 : w5.cell? ⟨wr.heap.size, 0, none⟩ = some (.string nm) := tblk_cell f5 rfl
          have b1 : w5.cell? ⟨wr.heap.size, 1, none⟩ = some (.string T) := tblk_cell f5 rfl
          have z0 : w5.frozen? ⟨w.heap.size, 0, none⟩ = false := tblk_z g5
          have z1 : w5.frozen? ⟨w.heap.size, 1, none⟩ = false := tblk_z g5
          cases ok
          · have HW := two_cells g5 ⟨#[]⟩ ⟨#[]⟩
            have r0 := HW.2.1
            have r1 := HW.2.2.1
            have C6 : Hid (Below w.heap.size w ((w5.setCell ⟨w.heap.size, 0, none⟩ (.string ⟨#[]⟩)).setCell ⟨w.heap.size, 1, none⟩ (.string ⟨#[]⟩))) := (C5.setCell (p := ⟨w.heap.size, 0, none⟩) (Nat.le_refl _) _).setCell (p := ⟨w.heap.size, 1, none⟩) (Nat.le_refl _) _
            clear g5 f5 HW C5
            go_wp2
            refine bodyPost_ret (v := .tuple #[.agg #[.string ⟨#[]⟩, .string ⟨#[]⟩], .bool false]) (by simp [results, Tryz.results122, go_sem, r0, r1]) rfl ⟨?_, C6.out⟩
            rw [HP.out]; rfl
          · have HW := two_cells g5 nm T
            have r0 := HW.2.1
            have r1 := HW.2.2.1
            have C6 : Hid (Below w.heap.size w ((w5.setCell ⟨w.heap.size, 0, none⟩ (.string nm)).setCell ⟨w.heap.size, 1, none⟩ (.string T))) := (C5.setCell (p := ⟨w.heap.size, 0, none⟩) (Nat.le_refl _) _).setCell (p := ⟨w.heap.size, 1, none⟩) (Nat.le_refl _) _
            clear g5 f5 HW C5
            go_wp2
            refine bodyPost_ret (v := .tuple #[.agg #[.string nm, .string T], .bool true]) (by simp [results, Tryz.results122, go_sem, r0, r1]) rfl ⟨?_, C6.out⟩
            rw [HP.out]; rfl
      · have hb' : ¬ ((s[k].toNat : Int) == 58) = true := by simpa using hb
        go_wp2
        go_roundw
        case rel =>
          refine ⟨k + 1, by omega, by go_num, ?_, hg, hB⟩
          intro b hm
          have hk' : k < s.data.toList.length := hlt
          rw [List.take_succ_eq_append_getElem hk'] at hm
          rcases List.mem_append.1 hm with hm | hm
          · exact hno.out b hm
          · rw [List.mem_singleton.1 hm]
            intro c
            exact hb (by rw [show s[k] = s.data.toList[k] from rfl, c]; rfl)
        case measure => simp [intOf]; omega
    · have hP : Hid (prs s = (⟨#[]⟩, ⟨#[]⟩, 20)) := prs_no s (by have h := hno.out; rwa [List.take_of_length_le (show s.data.toList.length ≤ k by show s.size ≤ k; omega)] at h)
      have HW := two_cells hg ⟨#[]⟩ ⟨#[]⟩
      have r0 := HW.2.1
      have r1 := HW.2.2.1
      have C2 : Hid (Below w.heap.size w ((wr.setCell ⟨w.heap.size, 0, none⟩ (.string ⟨#[]⟩)).setCell ⟨w.heap.size, 1, none⟩ (.string ⟨#[]⟩))) := (hB.setCell (p := ⟨w.heap.size, 0, none⟩) (Nat.le_refl _) _).setCell (p := ⟨w.heap.size, 1, none⟩) (Nat.le_refl _) _
      clear hg HW hB
      go_wp2
      refine bodyPost_ret (v := .tuple #[.agg #[.string ⟨#[]⟩, .string ⟨#[]⟩], .bool false]) (by simp [results, Tryz.results122, go_sem, r0, r1]) rfl ⟨?_, C2.out⟩
      rw [hP.out]; rfl
end Go.Proofs.YtemmmdhmkegaaaaGreatDoor

/- The reference's fields. -/
namespace Go.Proofs.YtemmmdhmkegaaaaGreatDoor
open Go.ChangeShapes Go.WideShapes Go.ChangeAt Go.RowKit
set_option linter.unusedVariables false

set_option maxRecDepth 100000 in
set_option maxHeartbeats 4000000 in
theorem rfields_any (ss : List ByteArray) (a : Option Addr) (c : Nat) (w : World) (hT : Txs w.heap.size w (.slice a ss.length c) ss) (hz : ∀ s ∈ ss, s.size ≤ 2048) :
    Calls Tryz.prog 88 #[.slice a ss.length c] w fun e w' => ∃ ao cv, e = .returned (.tuple #[.slice ao (fldsP ss 40).1.length cv, .int .i64 (fldsP ss 40).2]) ∧ OwnF w.heap.size w' (.slice ao (fldsP ss 40).1.length cv) (fldsP ss 40).1 ∧ Below w.heap.size w w' := by
  have C0 : Below w.heap.size w (w.alloc (.cells #[] 121)) := (Below.refl _ _).alloc (Nat.le_refl _) _
  have hlm := hT.len
  unfold maxLen at hlm
  rcases Nat.eq_zero_or_pos ss.length with h0 | hp
  · have he : ss = [] := List.eq_nil_of_length_eq_zero h0
    subst he
    have e0 : fldsP [] 40 = ([], 0) := rfl
    rw [e0]
    clear hT hz hlm h0 e0
    go_enter Tryz.func88, Tryz.ntmps88
    go_wp2_with fail
    refine wp_loop_rounds 1 ?_
    rw [rounds_succ]
    go_wp2
    refine bodyPost_ret (v := .tuple #[.slice (some ⟨w.heap.size, 0, none⟩) 0 0, .int .i64 0]) (by simp [results, Tryz.results88, go_sem]) rfl ?_
    exact ⟨_, 0, rfl, OwnF.empty _ _ (Nat.le_refl _), C0⟩
  · obtain ⟨a', c', e, hnil, h1, h2, h3⟩ := hT
    obtain ⟨rfl, _, rfl⟩ := slice_inj e
    obtain ⟨g, off, rfl, hg, hc⟩ := h3 hp
    have HC : Hid (∀ (j : Nat) (hj : j < ss.length), w.cell? ⟨g, off + j, none⟩ = some (.string ss[j])) := hc
    have HZ : Hid (∀ s ∈ ss, s.size ≤ 2048) := hz
    have hln : ss.length ≤ 9223372036854775807 := by omega
    have hst0 : Hid (fldsP ss 40 = plusP [] (fldsP (ss.drop ([] : Fs).length) (40 - ([] : Fs).length))) := by
      rw [Hid, plusP_nil]
      · rfl
      · exact (fldsP_ok _ _).2.2.1
    generalize fldsP ss 40 = R at *
    clear e hnil h1 h2 h3 hc hz hlm
    go_enter Tryz.func88, Tryz.ntmps88
    go_wp2_with fail
    go_loopw [4, 5] (fun vo vi wr => ∃ (K : Fs) (ao : Option Addr) (cv : Nat), K.length ≤ ss.length ∧ K.length ≤ 40 ∧ vi = .int .i64 (K.length : Nat) ∧ vo = .slice ao K.length cv ∧ OwnF w.heap.size wr vo K ∧ Hid (R = plusP K (fldsP (ss.drop K.length) (40 - K.length))) ∧ Below w.heap.size w wr) (fun _ vi _ => ss.length - (intOf vi).toNat)
    case atStart => exact ⟨[], _, 0, Nat.zero_le _, Nat.zero_le _, rfl, rfl, OwnF.empty _ _ (Nat.le_refl _), hst0, C0⟩
    case round =>
      obtain ⟨K, ao, cv, hk, hk40, rfl, rfl, hO, hR, hB⟩ := hrel
      clear C0 hst0
      have HO : Hid (OwnF w.heap.size wr (.slice ao K.length cv) K) := hO
      clear hO
      by_cases hlt : K.length < ss.length
      · have hdr : ss.drop K.length = ss[K.length] :: ss.drop (K.length + 1) := List.drop_eq_getElem_cons hlt
        have hsz : ss[K.length].size ≤ 2048 := HZ.out _ (List.getElem_mem hlt)
        have hc1 := (hB.cell (p := ⟨g, off + K.length, none⟩) hg).trans (HC.out K.length hlt)
        generalize ss[K.length] = s at *
        have HPr : Hid (Calls Tryz.prog 122 #[.string s] wr fun e w' => e = .returned (.tuple #[.agg #[.string (prs s).1, .string (prs s).2.1], .bool (decide ((prs s).2.2 = 0))]) ∧ Below wr.heap.size wr w') := rparse_any s wr (by omega)
        by_cases hpe : (prs s).2.2 = 0
        · rw [decide_eq_true hpe] at HPr
          by_cases h40 : K.length = 40
          · have HE : Hid (R = ([], 431)) := by
              rw [Hid, hR.out, hdr, h40, fldsP_many hpe, plusP_err _ _ (by decide)]
            have hAL : ((K.length : Nat) : Int) = 40 := by omega
            clear hR hpe hsz hdr
            generalize prs s = pr at *
            obtain ⟨p1, p2, p3⟩ := pr
            simp only at HPr
            generalize K.length = kl at *
            subst h40
            go_wp2_with fail
            refine HPr.out.mono ?_
            rintro e w4 ⟨rfl, B4⟩
            have B5 := (hB.trans (B4.mono hB.size)).alloc (hB.trans (B4.mono hB.size)).size (.cells #[.string p1, .string p2] 121)
            clear HPr B4 hB
            go_wp2
            refine bodyPost_ret (v := .tuple #[.slice none 0 0, .int .i64 431]) (by simp [results, Tryz.results88, go_sem]) rfl ?_
            rw [HE.out]
            exact ⟨none, 0, rfl, OwnF.nil _ _, B5⟩
          · have HE : Hid (R = plusP (K ++ [((prs s).1, (prs s).2.1)]) (fldsP (ss.drop (K.length + 1)) (40 - (K.length + 1)))) := by
              obtain ⟨r, hr⟩ : ∃ r, 40 - K.length = r + 1 := ⟨40 - K.length - 1, by omega⟩
              have e1 : 40 - (K.length + 1) = r := by omega
              rw [Hid, hR.out, hdr, hr, fldsP_next hpe, plusP_plusP, e1]
            have hAL : ¬ ((K.length : Nat) : Int) = 40 := by omega
            have hAL2 : (((K.length : Nat) : Int) == 40) = false := by simpa using hAL
            clear hR hpe hsz hdr
            generalize prs s = pr at *
            obtain ⟨p1, p2, p3⟩ := pr
            simp only at HPr HE
            have HAC : Hid (K.length + 1 ≤ 40) := by rw [Hid]; omega
            have HHB : Hid _ := hB
            clear h40 hk40
            generalize hal : K.length = al at *
            have HAL3 : Hid (K.length = al) := hal
            clear hal
            go_wp2_with fail
            refine HPr.out.mono ?_
            rintro e w4 ⟨rfl, B4⟩
            have D4 := B4.alloc B4.size (.cells #[.string p1, .string p2] 121)
            have g4 : (w4.alloc (.cells #[.string p1, .string p2] 121)).heap[w4.heap.size]? = some (.cells #[.string p1, .string p2] 121) := tblk_new _ _
            have c0 : (w4.alloc (.cells #[.string p1, .string p2] 121)).cell? ⟨w4.heap.size, 0, none⟩ = some (.string p1) := tblk_cell g4 rfl
            have c1 : (w4.alloc (.cells #[.string p1, .string p2] 121)).cell? ⟨w4.heap.size, 1, none⟩ = some (.string p2) := tblk_cell g4 rfl
            have own4 := HO.out.keep D4
            have B5 := HHB.out.trans (D4.mono HHB.out.size)
            clear g4 B4 D4 HPr HO hB hc1
            have own5 := own4.keep ((Below.refl _ _).alloc (Nat.le_refl _) (.cells #[.string p1, .string p2] 121))
            obtain ⟨v6, w6, r6, own6, B6⟩ := ownF_append own5 (fds_new (w4.alloc (.cells #[.string p1, .string p2] 121)) p1 p2) (by have := HAC.out; have := HAL3.out; simp; omega) (Nat.le_trans B5.size (by simp))
            have e5 : (w4.alloc (.cells #[.string p1, .string p2] 121)).heap.size = w4.heap.size + 1 := by simp
            have B7 : Below w.heap.size w w6 := (B5.alloc B5.size _).trans B6
            obtain ⟨a6, c6, rfl, _⟩ := own6.form
            have HO6 : Hid (OwnF w.heap.size w6 (.slice a6 (K ++ [(p1, p2)]).length c6) (K ++ [(p1, p2)])) := own6
            have HL : Hid ((K ++ [(p1, p2)]).length = al + 1) := by rw [Hid, List.length_append, HAL3.out]; rfl
            obtain ⟨L, hL⟩ : ∃ L, L = (K ++ [(p1, p2)]).length := ⟨_, rfl⟩
            have HR6 : Hid ((Builtin.append_ #[41, 41] 41 #[.slice ao al cv, .slice (some ⟨w4.heap.size + 1, 0, none⟩) 1 1]).run Tryz.prog ((w4.alloc (.cells #[.string p1, .string p2] 121)).alloc (.cells #[.string p1, .string p2] 121)) = .ok (.slice a6 L c6) w6) := by rw [Hid, hL, ← e5]; exact r6
            have HLL : Hid (L = (K ++ [(p1, p2)]).length) := hL
            have HB7 : Hid _ := B7
            clear own4 own5 own6 B5 B6 B7 r6 hL e5
            go_wp2_with (at_builtin; refine wpList_append_run2 rfl _ _ 41 41 rfl _ _ _ w6 rfl rfl HR6.out ?_)
            go_roundw
            case rel => exact ⟨K ++ [(p1, p2)], a6, c6, by have := HL.out; omega, by have := HL.out; have := HAC.out; have := HAL3.out; omega, by rw [HL.out]; go_num, by rw [HLL.out], (by rw [HLL.out]; exact HO6.out), (by rw [HL.out]; exact HE), HB7.out⟩
            case measure => simp [intOf]; omega
        · have HE : Hid (R = ([], 400)) := by
            rw [Hid, hR.out, hdr, fldsP_bad hpe, plusP_err _ _ (by decide)]
          rw [decide_eq_false hpe] at HPr
          clear hR hpe hsz hdr
          generalize prs s = pr at *
          obtain ⟨p1, p2, p3⟩ := pr
          simp only at HPr
          go_wp2_with fail
          refine HPr.out.mono ?_
          rintro e w4 ⟨rfl, B4⟩
          have B5 := (hB.trans (B4.mono hB.size)).alloc (hB.trans (B4.mono hB.size)).size (.cells #[.string p1, .string p2] 121)
          clear HPr B4 hB
          go_wp2
          refine bodyPost_ret (v := .tuple #[.slice none 0 0, .int .i64 400]) (by simp [results, Tryz.results88, go_sem]) rfl ?_
          rw [HE.out]
          exact ⟨none, 0, rfl, OwnF.nil _ _, B5⟩
      · have hk' : K.length = ss.length := by omega
        have HE : Hid (R = (K, 0)) := by
          rw [Hid, hR.out, hk', List.drop_length]
          unfold plusP fldsP
          simp
        clear hR
        go_wp2
        refine bodyPost_ret (v := .tuple #[.slice ao K.length cv, .int .i64 0]) (by simp [results, Tryz.results88, go_sem]) rfl ?_
        rw [HE.out]
        exact ⟨ao, cv, rfl, HO.out, hB⟩
end Go.Proofs.YtemmmdhmkegaaaaGreatDoor

/- The reference's Target. -/
namespace Go.Proofs.YtemmmdhmkegaaaaGreatDoor
open Go.RowKit
set_option linter.unusedVariables false

theorem tg_yes {c : Int} (h1 : ¬ c ≤ 32) (h2 : ¬ 127 ≤ c) : spanP 33 126 c = true := by unfold spanP; simp; omega
theorem tg_lo {c : Int} (h1 : c ≤ 32) : spanP 33 126 c = false := by unfold spanP; simp; omega
theorem tg_hi {c : Int} (h1 : 127 ≤ c) : spanP 33 126 c = false := by unfold spanP; simp; omega

set_option maxHeartbeats 1000000 in
theorem rtarget_any (s : ByteArray) (w : World) (hs : s.size ≤ maxLen) :
    Calls Tryz.prog 120 #[.string s] w fun e w' => e = .returned (.bool (tgtP s)) ∧ w' = w := by
  unfold maxLen at hs
  unfold tgtP
  go_enter Tryz.func120, Tryz.ntmps120
  go_wp2
  go_loop [3] (fun i => ∃ k : Nat, k ≤ s.size ∧ i = .int .i64 k ∧ Hid (allB (spanP 33 126) (s.data.toList.take k) = true)) (fun i => s.size - (intOf i).toNat)
  case atStart => exact ⟨0, Nat.zero_le _, rfl, rfl⟩
  case round =>
    obtain ⟨k, hk, rfl, hA⟩ := hrel
    by_cases hlt : k < s.size
    · by_cases a : (s[k].toNat : Int) ≤ 32
      · have HC := allB_false (p := spanP 33 126) s k hlt (tg_lo a)
        go_wp2
        go_ret
        exact ⟨ret_b (by simp), rfl⟩
      · have a' : decide ((s[k].toNat : Int) ≤ 32) = false := by simp; omega
        by_cases b : 127 ≤ (s[k].toNat : Int)
        · have HC := allB_false (p := spanP 33 126) s k hlt (tg_hi b)
          clear a
          go_wp2
          go_ret
          exact ⟨ret_b (by simp), rfl⟩
        · have b' : decide (127 ≤ (s[k].toNat : Int)) = false := by simp; omega
          have HC : Hid (allB (spanP 33 126) (s.data.toList.take (k + 1)) = true) := allB_snoc s k hlt hA.out (tg_yes a b)
          clear a b
          go_wp2
          go_round
          case rel => exact ⟨k + 1, by omega, by go_num, HC⟩
          case measure => simp [intOf]; omega
    · have hk' : k = s.size := by omega
      subst hk'
      have h := hA.out
      rw [List.take_of_length_le (show s.data.toList.length ≤ s.size from Nat.le_refl _)] at h
      rcases Nat.eq_zero_or_pos s.size with h0 | h0
      · have h0' : decide ((0 : Int) < (s.size : Int)) = false := decide_eq_false (by omega)
        go_wp2
        go_ret
        exact ⟨ret_b (by first | (simp; done) | (simp; omega)), rfl⟩
      · have h0' : decide ((0 : Int) < (s.size : Int)) = true := decide_eq_true (by omega)
        go_wp2
        go_ret
        exact ⟨ret_b (by first | (simp; done) | (simp; omega)), rfl⟩

end Go.Proofs.YtemmmdhmkegaaaaGreatDoor

/- A number as it is told: plain. -/
namespace Go.Proofs.YtemmmdhmkegaaaaGreatDoor
open Go.RowKit
set_option linter.unusedVariables false

def itoaS (n : Int) : ByteArray := ⟨(Lib.itoa n).toArray⟩
end Go.Proofs.YtemmmdhmkegaaaaGreatDoor

/- A version and a line as they are told: plain. -/
namespace Go.Proofs.YtemmmdhmkegaaaaGreatDoor
open Go.RowKit
set_option linter.unusedVariables false

def verT (m : Int) : ByteArray := ⟨#[72, 84, 84, 80, 47, 49, 46]⟩ ++ itoaS m
def reqT (m t v : ByteArray) : ByteArray := m ++ ⟨#[32]⟩ ++ t ++ ⟨#[32]⟩ ++ v ++ ⟨#[13, 10]⟩
end Go.Proofs.YtemmmdhmkegaaaaGreatDoor

/- What is read of a request's line is told as it was: plain facts. -/
namespace Go.Proofs.YtemmmdhmkegaaaaGreatDoor
open Go.RowKit
set_option linter.unusedVariables false

theorem ba_eq {a b : ByteArray} (h : a.data.toList = b.data.toList) : a = b := by
  obtain ⟨⟨x⟩⟩ := a
  obtain ⟨⟨y⟩⟩ := b
  have : x = y := h
  rw [this]
theorem eqS_eq {a b : ByteArray} (h : eqS a b = true) : a = b := by
  unfold eqS at h
  rw [ByteArray.toList_eq, ByteArray.toList_eq] at h
  exact ba_eq (eq_of_beq h)
theorem idx32 : ∀ l : List UInt8, Lib.index l [32] = -1 ∨ ∃ i : Nat, Lib.index l [32] = i ∧ l = l.take i ++ 32 :: l.drop (i + 1)
  | [] => Or.inl (by simp [Lib.index])
  | b :: l => by
    by_cases hb : b = 32
    · subst hb
      exact Or.inr ⟨0, by simp [Lib.index, List.isPrefixOf], by simp⟩
    · have hp : ([32] : List UInt8).isPrefixOf (b :: l) = false := by simp [List.isPrefixOf, Ne.symm hb]
      rcases idx32 l with h | ⟨i, h, e⟩
      · left
        rw [Lib.index, hp, h]
        simp
      · right
        refine ⟨i + 1, ?_, ?_⟩
        · rw [Lib.index, hp, h, if_neg (by decide), if_neg (by simp)]
          omega
        · rw [List.take_succ_cons, List.drop_succ_cons, List.cons_append, ← e]
def joinL : List (List UInt8) → List UInt8
  | [] => []
  | [x] => x
  | x :: y :: t => x ++ 32 :: joinL (y :: t)
theorem split_ne (sep : List UInt8) (k : Nat) (l : List UInt8) : ∃ a t, Lib.splitK sep 0 k l = a :: t := by
  cases k with
  | zero => exact ⟨l, [], rfl⟩
  | succ k =>
    unfold Lib.splitK
    split
    · exact ⟨_, _, rfl⟩
    · exact ⟨_, _, rfl⟩
theorem split_join : ∀ (k : Nat) (l : List UInt8), joinL (Lib.splitK [32] 0 k l) = l
  | 0, l => rfl
  | k + 1, l => by
    rcases idx32 l with h | ⟨i, h, e⟩
    · rw [Lib.splitK, h]
      rfl
    · have hne : ¬ (((i : Int) == -1) = true) := by simp
      rw [Lib.splitK, h, if_neg hne]
      obtain ⟨a, t, hs⟩ := split_ne [32] k (l.drop (i + 1))
      have ih := split_join k (l.drop (i + 1))
      have e1 : ((i : Int).toNat + ([32] : List UInt8).length) = i + 1 := rfl
      have e0 : ((i : Int).toNat + 0) = i := rfl
      rw [e1, e0, hs, joinL, ← hs, ih, ← e]
theorem part_join {s p0 p1 p2 : ByteArray} (h : part4 s = [p0, p1, p2]) : s.data.toList = p0.data.toList ++ 32 :: (p1.data.toList ++ 32 :: p2.data.toList) := by
  have k := Lib.splitB_data ⟨#[32]⟩ 0 (min 4 (s.size + 1) - 1) s
  have j := split_join (min 4 (s.size + 1) - 1) s.data.toList
  unfold part4 at h
  rw [h] at k
  rw [← show Lib.splitK (⟨#[32]⟩ : ByteArray).data.toList 0 (min 4 (s.size + 1) - 1) s.data.toList = Lib.splitK [32] 0 (min 4 (s.size + 1) - 1) s.data.toList from rfl, ← k] at j
  exact j.symm

theorem ver0 : verT 0 = v10 := by kernel_rfl
theorem ver1 : verT 1 = v11 := by kernel_rfl
theorem min_ver {p : ByteArray} (h : (minP p).2 = true) : verT (minP p).1 = p ∧ ((minP p).1 = 0 ∨ (minP p).1 = 1) := by
  unfold minP at h ⊢
  split
  · rename_i k
    exact ⟨by rw [eqS_eq k]; exact ver0, Or.inl rfl⟩
  · rename_i k0
    split
    · rename_i k
      exact ⟨by rw [eqS_eq k]; exact ver1, Or.inr rfl⟩
    · rename_i k
      rw [if_neg k0, if_neg k] at h
      cases h

theorem req_back {s : ByteArray} (h : (rqP s).code = 0) : reqT (rqP s).method (rqP s).target (verT (rqP s).minor) = s ++ ⟨#[13, 10]⟩ ∧ ((rqP s).minor = 0 ∨ (rqP s).minor = 1) ∧ (rqP s).method.size ≤ s.size ∧ (rqP s).target.size ≤ s.size := by
  unfold rqP at h ⊢
  split at h
  · rename_i p0 p1 p2 hp
    have q0 : p0.size ≤ s.size := splitB_sizes _ _ _ p0 (show p0 ∈ part4 s by rw [hp]; simp)
    have q1 : p1.size ≤ s.size := splitB_sizes _ _ _ p1 (show p1 ∈ part4 s by rw [hp]; simp)
    unfold rq3 at h ⊢
    split at h
    · cases h
    · rename_i k1
      split at h
      · cases h
      · rename_i k2
        split at h
        · cases h
        · rename_i k3
          split at h
          · cases h
          · rename_i k4
            split at h
            · cases h
            · rename_i k5
              rw [if_neg k1, if_neg k2, if_neg k3, if_neg k4, if_neg k5]
              have hm : (minP p2).2 = true := by
                cases e : (minP p2).2
                · exact absurd e k5
                · rfl
              obtain ⟨hv, hc⟩ := min_ver hm
              refine ⟨?_, hc, q0, q1⟩
              simp only
              rw [hv]
              refine ba_eq ?_
              unfold reqT
              simp only [ByteArray.data_append, Array.toList_append]
              rw [part_join hp]
              simp
  · cases h
end Go.Proofs.YtemmmdhmkegaaaaGreatDoor

/- The reference's Version. -/
namespace Go.Proofs.YtemmmdhmkegaaaaGreatDoor
open Go.RowKit
set_option linter.unusedVariables false

theorem lret3_iib {a b c d : Int} {x y : Bool} (h : a = c) (k : b = d) (l : x = y) : Ending.returned (.tuple #[.int .i64 a, .int .i64 b, .bool x]) = .returned (.tuple #[.int .i64 c, .int .i64 d, .bool y]) := by rw [h, k, l]
theorem eight_of {n : ByteArray} (h : n.size = 8) : ∃ a b c d e f g i, n = ⟨#[a, b, c, d, e, f, g, i]⟩ := by
  obtain ⟨⟨l⟩⟩ := n
  match l, h with
  | [a, b, c, d, e, f, g, i], _ => exact ⟨a, b, c, d, e, f, g, i, rfl⟩
def rverL (l : List UInt8) : Int × Int × Bool := match l with
  | [a, b, c, d, e, f, g, i] => if ([a, b, c, d, e] == [72, 84, 84, 80, 47]) = true ∧ spanP 48 57 f.toNat = true ∧ g = 46 ∧ spanP 48 57 i.toNat = true then ((f.toNat : Int) - 48, (i.toNat : Int) - 48, true) else (0, 0, false)
  | _ => (0, 0, false)
theorem rverL_len {l : List UInt8} (h : ¬ l.length = 8) : rverL l = (0, 0, false) := by
  unfold rverL
  split
  · exact absurd rfl h
  · rfl
set_option maxHeartbeats 2000000 in
theorem rversion_any (s : ByteArray) (w : World) (hs : s.size ≤ maxLen) : Calls Tryz.prog 121 #[.string s] w fun e w' => e = .returned (.tuple #[.int .i64 (rverL s.data.toList).1, .int .i64 (rverL s.data.toList).2.1, .bool (rverL s.data.toList).2.2]) ∧ Below w.heap.size w w' := by
  have D : Hid (∀ c W, Calls Tryz.prog 123 #[.int .u8 c] W fun e w' => e = .returned (.bool (spanP 48 57 c)) ∧ w' = W) := fun c W => rdig_any c W
  unfold maxLen at hs
  by_cases h8 : s.size = 8
  · obtain ⟨a, b, c, d, e, f, g, i, rfl⟩ := eight_of h8
    clear h8 hs
    unfold rverL
    simp only
    have hx : ((⟨#[a, b, c, d, e, f, g, i]⟩ : ByteArray).extract 0 5).toList = [a, b, c, d, e] := by rw [ByteArray.toList_eq]; rfl
    cases h1 : ([a, b, c, d, e] == [72, 84, 84, 80, 47])
    · rw [if_neg (by simp)]
      have hx' : (((⟨#[a, b, c, d, e, f, g, i]⟩ : ByteArray).extract 0 5).toList == [72, 84, 84, 80, 47]) = false := by rw [hx]; exact h1
      clear h1 hx D
      go_enter Tryz.func121, Tryz.ntmps121
      go_wp2
      go_ret3
      exact ⟨rfl, Below.refl _ _⟩
    · have hx' : (((⟨#[a, b, c, d, e, f, g, i]⟩ : ByteArray).extract 0 5).toList == [72, 84, 84, 80, 47]) = true := by rw [hx]; exact h1
      clear h1 hx
      generalize hE : (if (true = true) ∧ spanP 48 57 f.toNat = true ∧ g = 46 ∧ spanP 48 57 i.toNat = true then ((f.toNat : Int) - 48, (i.toNat : Int) - 48, true) else ((0 : Int), (0 : Int), false)) = E
      obtain ⟨E1, E2, E3⟩ := E
      have D5 : Hid (∀ W, Calls Tryz.prog 123 #[.int .u8 ((⟨#[a, b, c, d, e, f, g, i]⟩ : ByteArray)[5]'(show 5 < 8 by decide)).toNat] W fun e w' => e = .returned (.bool (spanP 48 57 f.toNat)) ∧ w' = W) := fun W => D.out _ W
      have D7 : Hid (∀ W, Calls Tryz.prog 123 #[.int .u8 ((⟨#[a, b, c, d, e, f, g, i]⟩ : ByteArray)[7]'(show 7 < 8 by decide)).toNat] W fun e w' => e = .returned (.bool (spanP 48 57 i.toNat)) ∧ w' = W) := fun W => D.out _ W
      clear D
      cases h5 : spanP 48 57 f.toNat
      · have HE : Hid (((0 : Int), (0 : Int), false) = (E1, E2, E3)) := by rw [Hid, ← hE, if_neg (by simp [h5])]
        rw [h5] at D5
        clear hE h5 D7
        go_enter Tryz.func121, Tryz.ntmps121
        go_wp2_with fail
        refine (D5.out _).mono ?_
        rintro e w1 ⟨rfl, rfl⟩
        go_wp2
        go_ret3
        exact ⟨lret3_iib (congrArg (·.1) HE.out) (congrArg (·.2.1) HE.out) (congrArg (·.2.2) HE.out), Below.refl _ _⟩
      · rw [h5] at D5
        by_cases h6 : g = 46
        · cases h7 : spanP 48 57 i.toNat
          · have HE : Hid (((0 : Int), (0 : Int), false) = (E1, E2, E3)) := by rw [Hid, ← hE, if_neg (by simp [h7])]
            rw [h7] at D7
            have g6 : ((((⟨#[a, b, c, d, e, f, g, i]⟩ : ByteArray)[6]'(show 6 < 8 by decide)).toNat : Nat) : Int) = 46 := by show ((g.toNat : Nat) : Int) = 46; rw [h6]; rfl
            clear hE h5 h7 h6
            go_enter Tryz.func121, Tryz.ntmps121
            go_wp2_with fail
            refine (D5.out _).mono ?_
            rintro e w1 ⟨rfl, rfl⟩
            go_wp2_with fail
            refine (D7.out _).mono ?_
            rintro e w2 ⟨rfl, rfl⟩
            go_wp2
            go_ret3
            exact ⟨lret3_iib (congrArg (·.1) HE.out) (congrArg (·.2.1) HE.out) (congrArg (·.2.2) HE.out), Below.refl _ _⟩
          · have HE : Hid (((f.toNat : Int) - 48, (i.toNat : Int) - 48, true) = (E1, E2, E3)) := by rw [Hid, ← hE, if_pos ⟨rfl, h5, h6, h7⟩]
            rw [h7] at D7
            have g6 : ((((⟨#[a, b, c, d, e, f, g, i]⟩ : ByteArray)[6]'(show 6 < 8 by decide)).toNat : Nat) : Int) = 46 := by show ((g.toNat : Nat) : Int) = 46; rw [h6]; rfl
            have hf : 48 ≤ (f.toNat : Int) ∧ (f.toNat : Int) ≤ 57 := by unfold spanP at h5; simpa using h5
            have hi : 48 ≤ (i.toNat : Int) ∧ (i.toNat : Int) ≤ 57 := by unfold spanP at h7; simpa using h7
            have u5 : IntKind.u8.wrap (((((⟨#[a, b, c, d, e, f, g, i]⟩ : ByteArray)[5]'(show 5 < 8 by decide)).toNat : Nat) : Int) - 48) = (f.toNat : Int) - 48 := by show IntKind.u8.wrap ((f.toNat : Int) - 48) = _; simp [IntKind.wrap, IntKind.bits, IntKind.signed]; omega
            have u7 : IntKind.u8.wrap (((((⟨#[a, b, c, d, e, f, g, i]⟩ : ByteArray)[7]'(show 7 < 8 by decide)).toNat : Nat) : Int) - 48) = (i.toNat : Int) - 48 := by show IntKind.u8.wrap ((i.toNat : Int) - 48) = _; simp [IntKind.wrap, IntKind.bits, IntKind.signed]; omega
            have v5 : IntKind.i64.wrap ((f.toNat : Int) - 48) = (f.toNat : Int) - 48 := by simp [IntKind.wrap, IntKind.bits, IntKind.signed]; omega
            have v7 : IntKind.i64.wrap ((i.toNat : Int) - 48) = (i.toNat : Int) - 48 := by simp [IntKind.wrap, IntKind.bits, IntKind.signed]; omega
            clear hE h5 h7 h6 hf hi
            go_enter Tryz.func121, Tryz.ntmps121
            go_wp2_with fail
            refine (D5.out _).mono ?_
            rintro e w1 ⟨rfl, rfl⟩
            go_wp2_with fail
            refine (D7.out _).mono ?_
            rintro e w2 ⟨rfl, rfl⟩
            go_wp2_with fail
            go_quiet (fail)
            go_wp2
            go_ret3
            exact ⟨lret3_iib (congrArg (·.1) HE.out) (congrArg (·.2.1) HE.out) (congrArg (·.2.2) HE.out), lbelow_drewN _ _ _⟩
        · have HE : Hid (((0 : Int), (0 : Int), false) = (E1, E2, E3)) := by rw [Hid, ← hE, if_neg (by simp [h6])]
          have g6 : ¬ ((((⟨#[a, b, c, d, e, f, g, i]⟩ : ByteArray)[6]'(show 6 < 8 by decide)).toNat : Nat) : Int) = 46 := by
            show ¬ ((g.toNat : Nat) : Int) = 46
            intro q
            exact h6 (UInt8.toNat_inj.1 (show g.toNat = 46 by omega))
          clear hE h5 h6 D7
          go_enter Tryz.func121, Tryz.ntmps121
          go_wp2_with fail
          refine (D5.out _).mono ?_
          rintro e w1 ⟨rfl, rfl⟩
          go_wp2
          go_ret3
          exact ⟨lret3_iib (congrArg (·.1) HE.out) (congrArg (·.2.1) HE.out) (congrArg (·.2.2) HE.out), Below.refl _ _⟩
  · rw [rverL_len h8]
    have h8' : ¬ (s.size : Int) = 8 := by omega
    clear h8 D
    go_enter Tryz.func121, Tryz.ntmps121
    go_wp2
    go_ret3
    exact ⟨rfl, Below.refl _ _⟩
end Go.Proofs.YtemmmdhmkegaaaaGreatDoor

/- Parts between blanks, plain: at most four of them are found as all of them are. -/
namespace Go.Proofs.YtemmmdhmkegaaaaGreatDoor
open Go.RowKit
set_option linter.unusedVariables false

def pl : List UInt8 → List (List UInt8)
  | [] => [[]]
  | b :: l => if b = 32 then [] :: pl l else match pl l with
    | a :: t => (b :: a) :: t
    | [] => [[b]]
theorem pl_ne : ∀ l, ∃ a t, pl l = a :: t
  | [] => ⟨[], [], rfl⟩
  | b :: l => by
    obtain ⟨a, t, h⟩ := pl_ne l
    unfold pl
    rw [h]
    by_cases hb : b = 32
    · rw [if_pos hb]; exact ⟨_, _, rfl⟩
    · rw [if_neg hb]; exact ⟨_, _, rfl⟩
def NoB (a : List UInt8) : Prop := ∀ b ∈ a, b ≠ 32
theorem pl_no : ∀ a, NoB a → pl a = [a]
  | [], _ => rfl
  | b :: l, h => by
    have ih := pl_no l (fun x hx => h x (List.mem_cons_of_mem _ hx))
    unfold pl
    rw [if_neg (h b (List.mem_cons_self ..)), ih]
theorem pl_hit : ∀ a l, NoB a → pl (a ++ 32 :: l) = a :: pl l
  | [], l, _ => by
    show pl (32 :: l) = _
    rw [pl, if_pos rfl]
  | b :: a, l, h => by
    have ih := pl_hit a l (fun x hx => h x (List.mem_cons_of_mem _ hx))
    rw [List.cons_append, pl, if_neg (h b (List.mem_cons_self ..)), ih]
theorem pl_len : ∀ l, (pl l).length ≤ l.length + 1
  | [] => Nat.le_refl _
  | b :: l => by
    have ih := pl_len l
    obtain ⟨a, t, h⟩ := pl_ne l
    unfold pl
    rw [h] at ih ⊢
    by_cases hb : b = 32
    · rw [if_pos hb]
      simp only [List.length_cons] at ih ⊢
      omega
    · rw [if_neg hb]
      simp only [List.length_cons] at ih ⊢
      omega
theorem idxN : ∀ l : List UInt8, (Lib.index l [32] = -1 ∧ NoB l) ∨ ∃ a t, l = a ++ 32 :: t ∧ NoB a ∧ Lib.index l [32] = (a.length : Int)
  | [] => Or.inl ⟨by simp [Lib.index], fun _ h => by cases h⟩
  | b :: l => by
    by_cases hb : b = 32
    · subst hb
      exact Or.inr ⟨[], l, rfl, (fun _ h => by cases h), by simp [Lib.index, List.isPrefixOf]⟩
    · have hp : ([32] : List UInt8).isPrefixOf (b :: l) = false := by simp [List.isPrefixOf, Ne.symm hb]
      rcases idxN l with ⟨h, hn⟩ | ⟨a, t, e, hn, h⟩
      · left
        refine ⟨?_, ?_⟩
        · rw [Lib.index, hp, h]
          simp
        · intro x hx
          cases hx with
          | head => exact hb
          | tail _ hx => exact hn x hx
      · right
        refine ⟨b :: a, t, by rw [e]; rfl, ?_, ?_⟩
        · intro x hx
          cases hx with
          | head => exact hb
          | tail _ hx => exact hn x hx
        · rw [Lib.index, hp, h, if_neg (by decide), if_neg (by simp)]
          simp only [List.length_cons]
          omega
theorem split_pl : ∀ (k : Nat) (l : List UInt8), Lib.splitK [32] 0 k l = pl l ∨ ((Lib.splitK [32] 0 k l).length = k + 1 ∧ k + 1 < (pl l).length)
  | 0, l => by
    rcases idxN l with ⟨_, hn⟩ | ⟨a, t, rfl, hn, _⟩
    · left; rw [pl_no l hn]; rfl
    · right
      refine ⟨rfl, ?_⟩
      rw [pl_hit a t hn]
      obtain ⟨x, y, e⟩ := pl_ne t
      rw [e]
      simp only [List.length_cons]
      omega
  | k + 1, l => by
    rcases idxN l with ⟨h, hn⟩ | ⟨a, t, e, hn, h⟩
    · left
      rw [Lib.splitK, h, pl_no l hn]
      rfl
    · have hne : ¬ (((a.length : Int) == -1) = true) := by simp
      have e1 : ((a.length : Int).toNat + ([32] : List UInt8).length) = a.length + 1 := rfl
      have e0 : ((a.length : Int).toNat + 0) = a.length := rfl
      rw [Lib.splitK, h, if_neg hne, e1, e0]
      have d : l.drop (a.length + 1) = t := by
        rw [e, show a ++ 32 :: t = (a ++ [32]) ++ t by simp, show a.length + 1 = (a ++ [32]).length by simp, List.drop_left]
      have d0 : l.take a.length = a := by rw [e, List.take_left]
      rw [d, d0, e, pl_hit a t hn]
      rcases split_pl k t with q | ⟨q1, q2⟩
      · left; rw [q]
      · right
        simp only [List.length_cons]
        omega
def partsB (s : ByteArray) : List ByteArray := (pl s.data.toList).map fun l => ⟨l.toArray⟩
theorem four_parts (s : ByteArray) : part4 s = partsB s ∨ ((part4 s).length = 4 ∧ 4 < (partsB s).length) := by
  have k := Lib.splitB_data ⟨#[32]⟩ 0 (min 4 (s.size + 1) - 1) s
  have hb : part4 s = (Lib.splitK [32] 0 (min 4 (s.size + 1) - 1) s.data.toList).map fun l => ⟨l.toArray⟩ := by
    rw [show Lib.splitK [32] 0 (min 4 (s.size + 1) - 1) s.data.toList = (Lib.splitB ⟨#[32]⟩ 0 (min 4 (s.size + 1) - 1) s).map (fun b => b.data.toList) from k.symm]
    rw [List.map_map]
    unfold part4
    conv => lhs; rw [← List.map_id (Lib.splitB ⟨#[32]⟩ 0 (min 4 (s.size + 1) - 1) s)]
    rfl
  rw [hb]
  unfold partsB
  rcases split_pl (min 4 (s.size + 1) - 1) s.data.toList with q | ⟨q1, q2⟩
  · left; rw [q]
  · have hl := pl_len s.data.toList
    have e : s.data.toList.length = s.size := rfl
    right
    rw [List.length_map, List.length_map]
    omega
def rqR (p0 p1 p2 : ByteArray) : Rq :=
  if (allB tokP p0.data.toList && decide (0 < p0.size)) = false then rqNo 400 else if 20 < p0.size then rqNo 400 else if tgtP p1 = false then rqNo 400 else
  if decide (p1.data.toList.head? = some 47) = false ∧ (eqS p1 ⟨#[42]⟩ = false ∨ eqS p0 ⟨#[79, 80, 84, 73, 79, 78, 83]⟩ = false) then rqNo 400 else if 512 < p1.size then rqNo 414 else
  if (rverL p2.data.toList).2.2 = false then rqNo 400 else if ¬ (rverL p2.data.toList).1 = 1 then rqNo 505 else if 1 < (rverL p2.data.toList).2.1 then rqNo 505 else ⟨p0, p1, (rverL p2.data.toList).2.1, 0⟩
def refQ (s : ByteArray) : Rq := match partsB s with
  | [p0, p1, p2] => rqR p0 p1 p2
  | _ => rqNo 400
end Go.Proofs.YtemmmdhmkegaaaaGreatDoor

/- The reference's Target and parts. -/
namespace Go.Proofs.YtemmmdhmkegaaaaGreatDoor
open Go.RowKit
set_option linter.unusedVariables false

theorem ext_mid (s : ByteArray) (f i : Nat) : (s.extract f i).data.toList = (s.data.toList.take i).drop f := by
  rw [Lib.extract_data, List.drop_take]
theorem lownT_one {B : Nat} {w : World} {v : Value} {X : List ByteArray} (x : ByteArray) (h : OwnT B w v X) (hmax : X.length + 1 ≤ 4294967296) (hB : B ≤ w.heap.size) :
    ∃ g' c' w', (Builtin.append_ #[141, 141] 141 #[v, .slice (some ⟨w.heap.size, 0, none⟩) 1 1]).run Tryz.prog (w.alloc (.cells #[.string x] 9)) = .ok (.slice (some ⟨g', 0, none⟩) (X ++ [x]).length c') w' ∧
      OwnT B w' (.slice (some ⟨g', 0, none⟩) (X ++ [x]).length c') (X ++ [x]) ∧ Below B w w' := by
  obtain ⟨i, hi, hz0, hz1, hz2⟩ := info_parts info9
  obtain ⟨v', w', hr, q1, q2, q3, q4⟩ := run_append_own_at (P := Tryz.prog) (w.alloc (.cells #[.string x] 9)) B 141 141 9 i (.string ByteArray.empty) 1 16 Tryz.underlying141 hi hz0 hz1 hz2 rfl (by decide) v X.length (X.map Value.string) (h.alloc _) ⟨w.heap.size, 0, none⟩ 1 1 [.string x] rfl
    (fun j u hj => by
      have : j = 0 := by have := (List.getElem?_eq_some_iff.1 hj).1; simpa using this
      subst this
      have : u = .string x := by simpa using hj.symm
      subst this
      rw [addr_add]
      exact tblk_cell (tblk_new _ _) rfl) (rowT_one [x]) (by unfold maxLen; omega) (by omega) (by simp; omega)
  have hq : w'.ownsRow B 9 1 v' (X ++ [x]).length ((X ++ [x]).map Value.string) := by rw [List.length_append, List.map_append]; exact q1
  rcases hq.2 with ⟨_, hz⟩ | ⟨g', c', cur, hv, _⟩
  · rw [List.length_append] at hz
    have : ([x] : List ByteArray).length = 1 := rfl
    omega
  · subst hv
    exact ⟨g', c', w', hr, hq, ((Below.refl _ _).alloc hB _).grown q2 (by simp; omega) (fun q hq => (h.lt q hq).1)⟩

def PtI (s : ByteArray) (f i : Nat) (K : List ByteArray) : Prop := NoB ((s.data.toList.take i).drop f) ∧ partsB s = K ++ (pl (s.data.toList.drop f)).map (fun l => ⟨l.toArray⟩) ∧ K.length ≤ f
theorem ptI_0 (s : ByteArray) : PtI s 0 0 [] := ⟨(fun _ h => by cases h), rfl, Nat.le_refl _⟩
theorem ldrop_at (l : List UInt8) (f i : Nat) (hf : f ≤ i) (hi : i < l.length) : l.drop f = (l.take i).drop f ++ l[i] :: l.drop (i + 1) := by
  have e : l = l.take i ++ l[i] :: l.drop (i + 1) := by
    rw [← List.drop_eq_getElem_cons hi, List.take_append_drop]
  conv => lhs; rw [e]
  rw [List.drop_append_of_le_length (by rw [List.length_take]; omega)]
theorem ptI_no {s : ByteArray} {f i : Nat} {K : List ByteArray} (h : PtI s f i K) (hf : f ≤ i) (hi : i < s.size) (hb : ¬ (s[i].toNat : Int) = 32) : PtI s f (i + 1) K := by
  refine ⟨?_, h.2⟩
  have hi' : i < s.data.toList.length := hi
  rw [List.take_succ_eq_append_getElem hi', List.drop_append_of_le_length (by rw [List.length_take]; omega)]
  intro b hm
  rcases List.mem_append.1 hm with k | k
  · exact h.1 b k
  · rw [List.mem_singleton.1 k]
    intro e
    refine hb ?_
    have : s[i] = 32 := e
    rw [this]; rfl
theorem ptI_hit {s : ByteArray} {f i : Nat} {K : List ByteArray} (h : PtI s f i K) (hf : f ≤ i) (hi : i < s.size) (hb : (s[i].toNat : Int) = 32) : PtI s (i + 1) (i + 1) (K ++ [s.extract f i]) := by
  have hi' : i < s.data.toList.length := hi
  have e32 : s.data.toList[i] = 32 := UInt8.toNat_inj.1 (by have e : (32 : UInt8).toNat = 32 := rfl; have k : (s.data.toList[i].toNat : Int) = 32 := hb; omega)
  refine ⟨?_, ?_, ?_⟩
  · rw [List.drop_eq_nil_of_le (by rw [List.length_take]; omega)]
    intro _ hm
    cases hm
  · rw [h.2.1, ldrop_at _ f i hf hi', e32, pl_hit _ _ h.1, List.map_cons, List.append_assoc, List.singleton_append]
    have e : s.extract f i = ⟨((s.data.toList.take i).drop f).toArray⟩ := ba_eq (ext_mid s f i)
    rw [e]
  · rw [List.length_append]
    have e : [s.extract f i].length = 1 := rfl
    have := h.2.2
    omega
theorem ptI_end {s : ByteArray} {f : Nat} {K : List ByteArray} (h : PtI s f s.size K) : K ++ [s.extract f s.size] = partsB s := by
  have e0 : s.data.toList.take s.size = s.data.toList := List.take_of_length_le (show s.data.toList.length ≤ s.size from Nat.le_refl _)
  have h1 := h.1
  rw [e0] at h1
  rw [h.2.1, pl_no _ h1]
  have e : s.extract f s.size = ⟨(s.data.toList.drop f).toArray⟩ := ba_eq (by rw [ext_mid, e0])
  rw [e]; rfl

set_option maxRecDepth 100000 in
set_option maxHeartbeats 2000000 in
theorem rparts_any (s : ByteArray) (w : World) (hs : s.size ≤ 4294967281) : Calls Tryz.prog 118 #[.string s] w fun e w' => ∃ g c, e = .returned (.slice (some ⟨g, 0, none⟩) (partsB s).length c) ∧ OwnT w.heap.size w' (.slice (some ⟨g, 0, none⟩) (partsB s).length c) (partsB s) ∧ Below w.heap.size w w' := by
  have C0 : Below w.heap.size w (w.alloc (.cells #[] 9)) := (Below.refl _ _).alloc (Nat.le_refl _) _
  go_enter Tryz.func118, Tryz.ntmps118
  go_wp2_with fail
  go_loopw [3, 4, 5] (fun v vf vi wr => ∃ (K : List ByteArray) (f i g cv : Nat), v = .slice (some ⟨g, 0, none⟩) K.length cv ∧ vf = .int .i64 f ∧ vi = .int .i64 i ∧ Hid (OwnT w.heap.size wr v K) ∧ Hid (Below w.heap.size w wr) ∧ ((i ≤ s.size ∧ f ≤ i ∧ Hid (PtI s f i K)) ∨ (i = s.size + 1 ∧ Hid (K = partsB s)))) (fun _ _ vi _ => s.size + 1 - (intOf vi).toNat)
  case atStart => exact ⟨[], 0, 0, w.heap.size, 0, rfl, rfl, rfl, OwnT.empty _ _ (Nat.le_refl _), C0, .inl ⟨Nat.zero_le _, Nat.le_refl _, ptI_0 s⟩⟩
  case round =>
    clear C0
    obtain ⟨K, f, i, g, cv, rfl, rfl, rfl, hO, hB, ⟨hi, hf, hP⟩ | ⟨hi, hP⟩⟩ := hrel
    · have hle : (i : Int) ≤ (s.size : Int) := by omega
      have hKf : K.length ≤ f := hP.out.2.2
      by_cases he : i = s.size
      · subst he
        have hE : Hid (K ++ [s.extract f s.size] = partsB s) := ptI_end hP.out
        have hf' : (f : Int) ≤ (s.size : Int) := by omega
        obtain ⟨g4, c4, w4, r4, o4, b4⟩ := lownT_one (s.extract f s.size) hO.out (by omega) hB.out.size
        have HR : Hid ((Builtin.append_ #[141, 141] 141 #[.slice (some ⟨g, 0, none⟩) K.length cv, .slice (some ⟨wr.heap.size, 0, none⟩) 1 1]).run Tryz.prog (wr.alloc (.cells #[.string (s.extract f s.size)] 9)) = .ok (.slice (some ⟨g4, 0, none⟩) (K ++ [s.extract f s.size]).length c4) w4) := r4
        have HO : Hid (OwnT w.heap.size w4 (.slice (some ⟨g4, 0, none⟩) (K ++ [s.extract f s.size]).length c4) (K ++ [s.extract f s.size])) := o4
        have HB : Hid (Below w.heap.size w w4) := hB.out.trans b4
        clear r4 o4 b4 hO hB hP
        generalize K ++ [s.extract f s.size] = K' at *
        go_wp2_with (at_builtin; refine wpList_append_run2 rfl _ _ 141 141 rfl _ _ _ w4 rfl rfl HR.out ?_)
        go_roundw
        case rel => exact ⟨K', s.size + 1, s.size + 1, g4, c4, rfl, by go_num, by go_num, HO, HB, .inr ⟨rfl, hE⟩⟩
        case measure => simp [intOf]
      · have hlt : i < s.size := by omega
        have he' : ((i : Int) == (s.size : Int)) = false := by simp; omega
        by_cases hb : (s[i].toNat : Int) = 32
        · have hE : Hid (PtI s (i + 1) (i + 1) (K ++ [s.extract f i])) := ptI_hit hP.out hf hlt hb
          have hb' : ((s[i].toNat : Int) == 32) = true := by simp; omega
          have hf' : (f : Int) ≤ (i : Int) := by omega
          obtain ⟨g4, c4, w4, r4, o4, b4⟩ := lownT_one (s.extract f i) hO.out (by omega) hB.out.size
          have HR : Hid ((Builtin.append_ #[141, 141] 141 #[.slice (some ⟨g, 0, none⟩) K.length cv, .slice (some ⟨wr.heap.size, 0, none⟩) 1 1]).run Tryz.prog (wr.alloc (.cells #[.string (s.extract f i)] 9)) = .ok (.slice (some ⟨g4, 0, none⟩) (K ++ [s.extract f i]).length c4) w4) := r4
          have HO : Hid (OwnT w.heap.size w4 (.slice (some ⟨g4, 0, none⟩) (K ++ [s.extract f i]).length c4) (K ++ [s.extract f i])) := o4
          have HB : Hid (Below w.heap.size w w4) := hB.out.trans b4
          clear r4 o4 b4 hO hB hP hb he
          generalize K ++ [s.extract f i] = K' at *
          go_wp2_with (at_builtin; refine wpList_append_run2 rfl _ _ 141 141 rfl _ _ _ w4 rfl rfl HR.out ?_)
          go_roundw
          case rel => exact ⟨K', i + 1, i + 1, g4, c4, rfl, by go_num, by go_num, HO, HB, .inl ⟨hlt, Nat.le_refl _, hE⟩⟩
          case measure => simp [intOf]; omega
        · have hE : Hid (PtI s f (i + 1) K) := ptI_no hP.out hf hlt hb
          have hb' : ((s[i].toNat : Int) == 32) = false := by simp; omega
          clear hP hb he
          go_wp2
          go_roundw
          case rel => exact ⟨K, f, i + 1, g, cv, rfl, rfl, by go_num, hO, hB, .inl ⟨hlt, by omega, hE⟩⟩
          case measure => simp [intOf]; omega
    · subst hi
      have hle : decide (((s.size + 1 : Nat) : Int) ≤ (s.size : Int)) = false := by simp; omega
      obtain rfl := hP.out
      clear hP
      go_wp2
      go_ret
      exact ⟨g, cv, rfl, hO.out, hB.out⟩
end Go.Proofs.YtemmmdhmkegaaaaGreatDoor

/- The reference's Request. -/
namespace Go.Proofs.YtemmmdhmkegaaaaGreatDoor
open Go.RowKit
set_option linter.unusedVariables false

theorem parts_sizes (s : ByteArray) : ∀ p ∈ partsB s, p.size ≤ s.size := by
  intro p hp
  unfold partsB at hp
  obtain ⟨l, hl, rfl⟩ := List.mem_map.1 hp
  have k : ∀ (x : List UInt8), ∀ l ∈ pl x, l.length ≤ x.length := by
    intro x
    induction x with
    | nil => intro l hl; rw [List.mem_singleton.1 hl]; exact Nat.le_refl _
    | cons b x ih =>
      intro l hl
      obtain ⟨a, t, h⟩ := pl_ne x
      unfold pl at hl
      rw [h] at hl ih
      by_cases hb : b = 32
      · rw [if_pos hb] at hl
        rcases List.mem_cons.1 hl with rfl | hl
        · exact Nat.zero_le _
        · have := ih l hl
          simp only [List.length_cons]
          omega
      · rw [if_neg hb] at hl
        rcases List.mem_cons.1 hl with rfl | hl
        · have := ih a (List.mem_cons_self ..)
          simp only [List.length_cons]
          omega
        · have := ih l (List.mem_cons_of_mem _ hl)
          simp only [List.length_cons]
          omega
  exact k s.data.toList l hl
theorem tgt_pos {p : ByteArray} (h : tgtP p = true) : 0 < p.size := by
  unfold tgtP at h
  rw [Bool.and_eq_true] at h
  exact of_decide_eq_true h.2
theorem eqS_lit (p : ByteArray) (l : List UInt8) : eqS p ⟨l.toArray⟩ = (p.toList == l) := by
  show (p.toList == (⟨l.toArray⟩ : ByteArray).toList) = _
  rw [lit_list l]
theorem bne_of {a b : List UInt8} {x : Bool} (h : (a == b) = x) : (a != b) = !x := by unfold bne; rw [h]

set_option maxRecDepth 100000 in
set_option maxHeartbeats 8000000 in
theorem rreq_three (p0 p1 p2 s : ByteArray) (w : World) (hs : s.size ≤ 4294967281) (hp : partsB s = [p0, p1, p2]) :
    Calls Tryz.prog 87 #[.string s] w fun e w' => e = .returned (.tuple #[rqV (rqR p0 p1 p2), .int .i64 (rqR p0 p1 p2).code]) ∧ Below w.heap.size w w' := by
  have q0 : p0.size ≤ s.size := parts_sizes s p0 (by rw [hp]; simp)
  have q1 : p1.size ≤ s.size := parts_sizes s p1 (by rw [hp]; simp)
  have q2 : p2.size ≤ s.size := parts_sizes s p2 (by rw [hp]; simp)
  have C0 : Below w.heap.size w (w.alloc (.cells #[.string ⟨#[]⟩, .string ⟨#[]⟩, .int .i64 0, .slice none 0 0, .slice none 0 0] 43)) := (Below.refl _ _).alloc (Nat.le_refl _) _
  have hg0 := tblk_new w (.cells #[.string ⟨#[]⟩, .string ⟨#[]⟩, .int .i64 0, .slice none 0 0, .slice none 0 0] 43)
  have H1 : Hid (Calls Tryz.prog 118 #[.string s] (w.alloc (.cells #[.string ⟨#[]⟩, .string ⟨#[]⟩, .int .i64 0, .slice none 0 0, .slice none 0 0] 43)) fun e w' => ∃ b c, e = .returned (.slice (some ⟨b, 0, none⟩) 3 c) ∧ RQ w b p0 p1 p2 w') := by
    refine (rparts_any s _ hs).mono ?_
    rintro e w' ⟨g, c, he, hO, B⟩
    rw [hp] at he hO
    have hb : (w.alloc (.cells #[.string ⟨#[]⟩, .string ⟨#[]⟩, .int .i64 0, .slice none 0 0, .slice none 0 0] 43)).heap.size ≤ g := by
      rcases hO.2 with ⟨_, hz⟩ | ⟨g', c', cur, hv, hB, _⟩
      · cases hz
      · cases hv
        exact hB
    have c0 := World.ownsRow.cellAt hO 0 (by simp)
    have c1 := World.ownsRow.cellAt hO 1 (by simp)
    have c2 := World.ownsRow.cellAt hO 2 (by simp)
    exact ⟨g, c, he, C0.trans (B.mono C0.size), tblk_below hg0 B, lcell_lt c0, ne_of_le hb, c0, c1, c2⟩
  have HK : Hid (∀ W, Calls Tryz.prog 119 #[.string p0] W fun e w' => e = .returned (.bool (allB tokP p0.data.toList && decide (0 < p0.size))) ∧ w' = W) := fun W => rToken_any p0 W (by unfold maxLen; omega)
  have HG : Hid (∀ W, Calls Tryz.prog 120 #[.string p1] W fun e w' => e = .returned (.bool (tgtP p1)) ∧ w' = W) := fun W => rtarget_any p1 W (by unfold maxLen; omega)
  have HV : Hid (∀ W, Calls Tryz.prog 121 #[.string p2] W fun e w' => e = .returned (.tuple #[.int .i64 (rverL p2.data.toList).1, .int .i64 (rverL p2.data.toList).2.1, .bool (rverL p2.data.toList).2.2]) ∧ Below W.heap.size W w') := fun W => rversion_any p2 W (by unfold maxLen; omega)
  have hps := tgt_pos (p := p1)
  unfold rqR
  generalize (allB tokP p0.data.toList && decide (0 < p0.size)) = tk at *
  generalize tgtP p1 = tg at *
  generalize rverL p2.data.toList = V at *
  obtain ⟨M, mi, ok⟩ := V
  simp only at HV ⊢
  clear q0 q1 q2 hs hp C0 hg0
  cases tk
  · rw [if_pos rfl]
    go_enter Tryz.func87, Tryz.ntmps87
    go_wp2_with fail
    refine H1.out.mono ?_
    rintro e w1 ⟨b, c, rfl, I0⟩
    have s0 := I0.c0
    have s1 := I0.c1
    have s2 := I0.c2
    clear H1
    go_wp2_with fail
    refine (HK.out _).mono ?_
    rintro e w2 ⟨rfl, rfl⟩
    have HW := five_cells I0.own (.string ⟨#[]⟩) (.string ⟨#[]⟩) (.int .i64 0) (.slice none 0 0) (.slice none 0 0)
    have HB := five_below (.string ⟨#[]⟩) (.string ⟨#[]⟩) (.int .i64 0) (.slice none 0 0) (.slice none 0 0) I0.below (Nat.le_refl _)
    have a0 := tblk_cell (i := 0) I0.own rfl
    have z0 := lblk_z (i := 0) I0.own
    have a1 := tblk_cell (i := 1) I0.own rfl
    have z1 := lblk_z (i := 1) I0.own
    have a2 := tblk_cell (i := 2) I0.own rfl
    have z2 := lblk_z (i := 2) I0.own
    have a3 := tblk_cell (i := 3) I0.own rfl
    have z3 := lblk_z (i := 3) I0.own
    have a4 := tblk_cell (i := 4) I0.own rfl
    have z4 := lblk_z (i := 4) I0.own
    have r0 := tblk_cell (i := 0) HW rfl
    have r1 := tblk_cell (i := 1) HW rfl
    have r2 := tblk_cell (i := 2) HW rfl
    have r3 := tblk_cell (i := 3) HW rfl
    have r4 := tblk_cell (i := 4) HW rfl
    unfold five at r0 r1 r2 r3 r4 HB
    have HB' : Hid _ := HB
    clear HB HW
    go_wp2
    refine bodyPost_ret (v := .tuple #[.agg #[.string ⟨#[]⟩, .string ⟨#[]⟩, .int .i64 0, .slice none 0 0, .slice none 0 0], .int .i64 400]) (by simp [results, Tryz.results87, go_sem, r0, r1, r2, r3, r4]) rfl ⟨rfl, HB'.out⟩
  · rw [if_neg (by decide)]
    by_cases h20 : 20 < p0.size
    · rw [if_pos h20]
      have h20B : decide ((20 : Int) < (p0.size : Int)) = true := decide_eq_true (by omega)
      clear h20
      go_enter Tryz.func87, Tryz.ntmps87
      go_wp2_with fail
      refine H1.out.mono ?_
      rintro e w1 ⟨b, c, rfl, I0⟩
      have s0 := I0.c0
      have s1 := I0.c1
      have s2 := I0.c2
      clear H1
      go_wp2_with fail
      refine (HK.out _).mono ?_
      rintro e w2 ⟨rfl, rfl⟩
      have HW := five_cells I0.own (.string ⟨#[]⟩) (.string ⟨#[]⟩) (.int .i64 0) (.slice none 0 0) (.slice none 0 0)
      have HB := five_below (.string ⟨#[]⟩) (.string ⟨#[]⟩) (.int .i64 0) (.slice none 0 0) (.slice none 0 0) I0.below (Nat.le_refl _)
      have a0 := tblk_cell (i := 0) I0.own rfl
      have z0 := lblk_z (i := 0) I0.own
      have a1 := tblk_cell (i := 1) I0.own rfl
      have z1 := lblk_z (i := 1) I0.own
      have a2 := tblk_cell (i := 2) I0.own rfl
      have z2 := lblk_z (i := 2) I0.own
      have a3 := tblk_cell (i := 3) I0.own rfl
      have z3 := lblk_z (i := 3) I0.own
      have a4 := tblk_cell (i := 4) I0.own rfl
      have z4 := lblk_z (i := 4) I0.own
      have r0 := tblk_cell (i := 0) HW rfl
      have r1 := tblk_cell (i := 1) HW rfl
      have r2 := tblk_cell (i := 2) HW rfl
      have r3 := tblk_cell (i := 3) HW rfl
      have r4 := tblk_cell (i := 4) HW rfl
      unfold five at r0 r1 r2 r3 r4 HB
      have HB' : Hid _ := HB
      clear HB HW
      go_wp2
      refine bodyPost_ret (v := .tuple #[.agg #[.string ⟨#[]⟩, .string ⟨#[]⟩, .int .i64 0, .slice none 0 0, .slice none 0 0], .int .i64 400]) (by simp [results, Tryz.results87, go_sem, r0, r1, r2, r3, r4]) rfl ⟨rfl, HB'.out⟩
    · rw [if_neg h20]
      have h20B : decide ((20 : Int) < (p0.size : Int)) = false := decide_eq_false (by omega)
      clear h20
      cases tg
      · rw [if_pos rfl]
        go_enter Tryz.func87, Tryz.ntmps87
        go_wp2_with fail
        refine H1.out.mono ?_
        rintro e w1 ⟨b, c, rfl, I0⟩
        have s0 := I0.c0
        have s1 := I0.c1
        have s2 := I0.c2
        clear H1
        go_wp2_with fail
        refine (HK.out _).mono ?_
        rintro e w2 ⟨rfl, rfl⟩
        go_wp2_with fail
        refine (HG.out _).mono ?_
        rintro e w3 ⟨rfl, rfl⟩
        have HW := five_cells I0.own (.string ⟨#[]⟩) (.string ⟨#[]⟩) (.int .i64 0) (.slice none 0 0) (.slice none 0 0)
        have HB := five_below (.string ⟨#[]⟩) (.string ⟨#[]⟩) (.int .i64 0) (.slice none 0 0) (.slice none 0 0) I0.below (Nat.le_refl _)
        have a0 := tblk_cell (i := 0) I0.own rfl
        have z0 := lblk_z (i := 0) I0.own
        have a1 := tblk_cell (i := 1) I0.own rfl
        have z1 := lblk_z (i := 1) I0.own
        have a2 := tblk_cell (i := 2) I0.own rfl
        have z2 := lblk_z (i := 2) I0.own
        have a3 := tblk_cell (i := 3) I0.own rfl
        have z3 := lblk_z (i := 3) I0.own
        have a4 := tblk_cell (i := 4) I0.own rfl
        have z4 := lblk_z (i := 4) I0.own
        have r0 := tblk_cell (i := 0) HW rfl
        have r1 := tblk_cell (i := 1) HW rfl
        have r2 := tblk_cell (i := 2) HW rfl
        have r3 := tblk_cell (i := 3) HW rfl
        have r4 := tblk_cell (i := 4) HW rfl
        unfold five at r0 r1 r2 r3 r4 HB
        have HB' : Hid _ := HB
        clear HB HW
        go_wp2
        refine bodyPost_ret (v := .tuple #[.agg #[.string ⟨#[]⟩, .string ⟨#[]⟩, .int .i64 0, .slice none 0 0, .slice none 0 0], .int .i64 400]) (by simp [results, Tryz.results87, go_sem, r0, r1, r2, r3, r4]) rfl ⟨rfl, HB'.out⟩
      · rw [if_neg (by decide)]
        have hpos := hps rfl
        have hpos' : (0 : Int) < (p1.size : Int) := by omega
        clear hps
        rw [head_eq hpos, eqS_lit p1 [42], eqS_lit p0 [79, 80, 84, 73, 79, 78, 83]]
        cases h47 : ((p1[0].toNat : Int) == 47)
        · have n47 : ((p1[0].toNat : Int) != 47) = true := by unfold bne; rw [h47]; rfl
          cases hst : (p1.toList == [42])
          · rw [if_pos ⟨rfl, Or.inl rfl⟩]
            have nst := bne_of hst
            go_enter Tryz.func87, Tryz.ntmps87
            go_wp2_with fail
            refine H1.out.mono ?_
            rintro e w1 ⟨b, c, rfl, I0⟩
            have s0 := I0.c0
            have s1 := I0.c1
            have s2 := I0.c2
            clear H1
            go_wp2_with fail
            refine (HK.out _).mono ?_
            rintro e w2 ⟨rfl, rfl⟩
            go_wp2_with fail
            refine (HG.out _).mono ?_
            rintro e w3 ⟨rfl, rfl⟩
            have HW := five_cells I0.own (.string ⟨#[]⟩) (.string ⟨#[]⟩) (.int .i64 0) (.slice none 0 0) (.slice none 0 0)
            have HB := five_below (.string ⟨#[]⟩) (.string ⟨#[]⟩) (.int .i64 0) (.slice none 0 0) (.slice none 0 0) I0.below (Nat.le_refl _)
            have a0 := tblk_cell (i := 0) I0.own rfl
            have z0 := lblk_z (i := 0) I0.own
            have a1 := tblk_cell (i := 1) I0.own rfl
            have z1 := lblk_z (i := 1) I0.own
            have a2 := tblk_cell (i := 2) I0.own rfl
            have z2 := lblk_z (i := 2) I0.own
            have a3 := tblk_cell (i := 3) I0.own rfl
            have z3 := lblk_z (i := 3) I0.own
            have a4 := tblk_cell (i := 4) I0.own rfl
            have z4 := lblk_z (i := 4) I0.own
            have r0 := tblk_cell (i := 0) HW rfl
            have r1 := tblk_cell (i := 1) HW rfl
            have r2 := tblk_cell (i := 2) HW rfl
            have r3 := tblk_cell (i := 3) HW rfl
            have r4 := tblk_cell (i := 4) HW rfl
            unfold five at r0 r1 r2 r3 r4 HB
            have HB' : Hid _ := HB
            clear HB HW
            go_wp2
            refine bodyPost_ret (v := .tuple #[.agg #[.string ⟨#[]⟩, .string ⟨#[]⟩, .int .i64 0, .slice none 0 0, .slice none 0 0], .int .i64 400]) (by simp [results, Tryz.results87, go_sem, r0, r1, r2, r3, r4]) rfl ⟨rfl, HB'.out⟩
          · have nst := bne_of hst
            cases hop : (p0.toList == [79, 80, 84, 73, 79, 78, 83])
            · rw [if_pos ⟨rfl, Or.inr rfl⟩]
              have nop := bne_of hop
              go_enter Tryz.func87, Tryz.ntmps87
              go_wp2_with fail
              refine H1.out.mono ?_
              rintro e w1 ⟨b, c, rfl, I0⟩
              have s0 := I0.c0
              have s1 := I0.c1
              have s2 := I0.c2
              clear H1
              go_wp2_with fail
              refine (HK.out _).mono ?_
              rintro e w2 ⟨rfl, rfl⟩
              go_wp2_with fail
              refine (HG.out _).mono ?_
              rintro e w3 ⟨rfl, rfl⟩
              have HW := five_cells I0.own (.string ⟨#[]⟩) (.string ⟨#[]⟩) (.int .i64 0) (.slice none 0 0) (.slice none 0 0)
              have HB := five_below (.string ⟨#[]⟩) (.string ⟨#[]⟩) (.int .i64 0) (.slice none 0 0) (.slice none 0 0) I0.below (Nat.le_refl _)
              have a0 := tblk_cell (i := 0) I0.own rfl
              have z0 := lblk_z (i := 0) I0.own
              have a1 := tblk_cell (i := 1) I0.own rfl
              have z1 := lblk_z (i := 1) I0.own
              have a2 := tblk_cell (i := 2) I0.own rfl
              have z2 := lblk_z (i := 2) I0.own
              have a3 := tblk_cell (i := 3) I0.own rfl
              have z3 := lblk_z (i := 3) I0.own
              have a4 := tblk_cell (i := 4) I0.own rfl
              have z4 := lblk_z (i := 4) I0.own
              have r0 := tblk_cell (i := 0) HW rfl
              have r1 := tblk_cell (i := 1) HW rfl
              have r2 := tblk_cell (i := 2) HW rfl
              have r3 := tblk_cell (i := 3) HW rfl
              have r4 := tblk_cell (i := 4) HW rfl
              unfold five at r0 r1 r2 r3 r4 HB
              have HB' : Hid _ := HB
              clear HB HW
              go_wp2
              refine bodyPost_ret (v := .tuple #[.agg #[.string ⟨#[]⟩, .string ⟨#[]⟩, .int .i64 0, .slice none 0 0, .slice none 0 0], .int .i64 400]) (by simp [results, Tryz.results87, go_sem, r0, r1, r2, r3, r4]) rfl ⟨rfl, HB'.out⟩
            · rw [if_neg (by rintro ⟨_, k | k⟩ <;> cases k)]
              have nop := bne_of hop
              by_cases h512 : 512 < p1.size
              · rw [if_pos h512]
                have hlB : decide ((512 : Int) < (p1.size : Int)) = true := decide_eq_true (by omega)
                clear h512
                go_enter Tryz.func87, Tryz.ntmps87
                go_wp2_with fail
                refine H1.out.mono ?_
                rintro e w1 ⟨b, c, rfl, I0⟩
                have s0 := I0.c0
                have s1 := I0.c1
                have s2 := I0.c2
                clear H1
                go_wp2_with fail
                refine (HK.out _).mono ?_
                rintro e w2 ⟨rfl, rfl⟩
                go_wp2_with fail
                refine (HG.out _).mono ?_
                rintro e w3 ⟨rfl, rfl⟩
                have HW := five_cells I0.own (.string ⟨#[]⟩) (.string ⟨#[]⟩) (.int .i64 0) (.slice none 0 0) (.slice none 0 0)
                have HB := five_below (.string ⟨#[]⟩) (.string ⟨#[]⟩) (.int .i64 0) (.slice none 0 0) (.slice none 0 0) I0.below (Nat.le_refl _)
                have a0 := tblk_cell (i := 0) I0.own rfl
                have z0 := lblk_z (i := 0) I0.own
                have a1 := tblk_cell (i := 1) I0.own rfl
                have z1 := lblk_z (i := 1) I0.own
                have a2 := tblk_cell (i := 2) I0.own rfl
                have z2 := lblk_z (i := 2) I0.own
                have a3 := tblk_cell (i := 3) I0.own rfl
                have z3 := lblk_z (i := 3) I0.own
                have a4 := tblk_cell (i := 4) I0.own rfl
                have z4 := lblk_z (i := 4) I0.own
                have r0 := tblk_cell (i := 0) HW rfl
                have r1 := tblk_cell (i := 1) HW rfl
                have r2 := tblk_cell (i := 2) HW rfl
                have r3 := tblk_cell (i := 3) HW rfl
                have r4 := tblk_cell (i := 4) HW rfl
                unfold five at r0 r1 r2 r3 r4 HB
                have HB' : Hid _ := HB
                clear HB HW
                go_wp2
                refine bodyPost_ret (v := .tuple #[.agg #[.string ⟨#[]⟩, .string ⟨#[]⟩, .int .i64 0, .slice none 0 0, .slice none 0 0], .int .i64 414]) (by simp [results, Tryz.results87, go_sem, r0, r1, r2, r3, r4]) rfl ⟨rfl, HB'.out⟩
              · rw [if_neg h512]
                have hlB : decide ((512 : Int) < (p1.size : Int)) = false := decide_eq_false (by omega)
                clear h512
                cases ok
                · rw [if_pos rfl]
                  go_enter Tryz.func87, Tryz.ntmps87
                  go_wp2_with fail
                  refine H1.out.mono ?_
                  rintro e w1 ⟨b, c, rfl, I0⟩
                  have s0 := I0.c0
                  have s1 := I0.c1
                  have s2 := I0.c2
                  clear H1
                  go_wp2_with fail
                  refine (HK.out _).mono ?_
                  rintro e w2 ⟨rfl, rfl⟩
                  go_wp2_with fail
                  refine (HG.out _).mono ?_
                  rintro e w3 ⟨rfl, rfl⟩
                  go_wp2_with fail
                  refine (HV.out _).mono ?_
                  rintro e w4 ⟨rfl, B4⟩
                  have I1 := I0.next B4
                  have t0 := I1.c0
                  have t1 := I1.c1
                  clear B4
                  have HW := five_cells I1.own (.string ⟨#[]⟩) (.string ⟨#[]⟩) (.int .i64 0) (.slice none 0 0) (.slice none 0 0)
                  have HB := five_below (.string ⟨#[]⟩) (.string ⟨#[]⟩) (.int .i64 0) (.slice none 0 0) (.slice none 0 0) I1.below (Nat.le_refl _)
                  have a0 := tblk_cell (i := 0) I1.own rfl
                  have z0 := lblk_z (i := 0) I1.own
                  have a1 := tblk_cell (i := 1) I1.own rfl
                  have z1 := lblk_z (i := 1) I1.own
                  have a2 := tblk_cell (i := 2) I1.own rfl
                  have z2 := lblk_z (i := 2) I1.own
                  have a3 := tblk_cell (i := 3) I1.own rfl
                  have z3 := lblk_z (i := 3) I1.own
                  have a4 := tblk_cell (i := 4) I1.own rfl
                  have z4 := lblk_z (i := 4) I1.own
                  have r0 := tblk_cell (i := 0) HW rfl
                  have r1 := tblk_cell (i := 1) HW rfl
                  have r2 := tblk_cell (i := 2) HW rfl
                  have r3 := tblk_cell (i := 3) HW rfl
                  have r4 := tblk_cell (i := 4) HW rfl
                  unfold five at r0 r1 r2 r3 r4 HB
                  have HB' : Hid _ := HB
                  clear HB HW
                  go_wp2
                  refine bodyPost_ret (v := .tuple #[.agg #[.string ⟨#[]⟩, .string ⟨#[]⟩, .int .i64 0, .slice none 0 0, .slice none 0 0], .int .i64 400]) (by simp [results, Tryz.results87, go_sem, r0, r1, r2, r3, r4]) rfl ⟨rfl, HB'.out⟩
                · rw [if_neg (by decide)]
                  by_cases hM : M = 1
                  · rw [if_neg (fun k => k hM)]
                    subst hM
                    by_cases hm : 1 < mi
                    · rw [if_pos hm]
                      have hmB : decide ((1 : Int) < mi) = true := decide_eq_true hm
                      clear hm
                      go_enter Tryz.func87, Tryz.ntmps87
                      go_wp2_with fail
                      refine H1.out.mono ?_
                      rintro e w1 ⟨b, c, rfl, I0⟩
                      have s0 := I0.c0
                      have s1 := I0.c1
                      have s2 := I0.c2
                      clear H1
                      go_wp2_with fail
                      refine (HK.out _).mono ?_
                      rintro e w2 ⟨rfl, rfl⟩
                      go_wp2_with fail
                      refine (HG.out _).mono ?_
                      rintro e w3 ⟨rfl, rfl⟩
                      go_wp2_with fail
                      refine (HV.out _).mono ?_
                      rintro e w4 ⟨rfl, B4⟩
                      have I1 := I0.next B4
                      have t0 := I1.c0
                      have t1 := I1.c1
                      clear B4
                      have HW := five_cells I1.own (.string ⟨#[]⟩) (.string ⟨#[]⟩) (.int .i64 0) (.slice none 0 0) (.slice none 0 0)
                      have HB := five_below (.string ⟨#[]⟩) (.string ⟨#[]⟩) (.int .i64 0) (.slice none 0 0) (.slice none 0 0) I1.below (Nat.le_refl _)
                      have a0 := tblk_cell (i := 0) I1.own rfl
                      have z0 := lblk_z (i := 0) I1.own
                      have a1 := tblk_cell (i := 1) I1.own rfl
                      have z1 := lblk_z (i := 1) I1.own
                      have a2 := tblk_cell (i := 2) I1.own rfl
                      have z2 := lblk_z (i := 2) I1.own
                      have a3 := tblk_cell (i := 3) I1.own rfl
                      have z3 := lblk_z (i := 3) I1.own
                      have a4 := tblk_cell (i := 4) I1.own rfl
                      have z4 := lblk_z (i := 4) I1.own
                      have r0 := tblk_cell (i := 0) HW rfl
                      have r1 := tblk_cell (i := 1) HW rfl
                      have r2 := tblk_cell (i := 2) HW rfl
                      have r3 := tblk_cell (i := 3) HW rfl
                      have r4 := tblk_cell (i := 4) HW rfl
                      unfold five at r0 r1 r2 r3 r4 HB
                      have HB' : Hid _ := HB
                      clear HB HW
                      go_wp2
                      refine bodyPost_ret (v := .tuple #[.agg #[.string ⟨#[]⟩, .string ⟨#[]⟩, .int .i64 0, .slice none 0 0, .slice none 0 0], .int .i64 505]) (by simp [results, Tryz.results87, go_sem, r0, r1, r2, r3, r4]) rfl ⟨rfl, HB'.out⟩
                    · rw [if_neg hm]
                      have hmB : decide ((1 : Int) < mi) = false := decide_eq_false hm
                      clear hm
                      go_enter Tryz.func87, Tryz.ntmps87
                      go_wp2_with fail
                      refine H1.out.mono ?_
                      rintro e w1 ⟨b, c, rfl, I0⟩
                      have s0 := I0.c0
                      have s1 := I0.c1
                      have s2 := I0.c2
                      clear H1
                      go_wp2_with fail
                      refine (HK.out _).mono ?_
                      rintro e w2 ⟨rfl, rfl⟩
                      go_wp2_with fail
                      refine (HG.out _).mono ?_
                      rintro e w3 ⟨rfl, rfl⟩
                      go_wp2_with fail
                      refine (HV.out _).mono ?_
                      rintro e w4 ⟨rfl, B4⟩
                      have I1 := I0.next B4
                      have t0 := I1.c0
                      have t1 := I1.c1
                      clear B4
                      have nb := I0.ne
                      have nb' : ¬ w.heap.size = b := fun e => nb e.symm
                      have d0 := tblk_cell (i := 0) I1.own rfl
                      have y0 := lblk_z (i := 0) I1.own
                      have d1 := tblk_cell (i := 1) I1.own rfl
                      have y1 := lblk_z (i := 1) I1.own
                      have d2 := tblk_cell (i := 2) I1.own rfl
                      have y2 := lblk_z (i := 2) I1.own
                      have d3 := tblk_cell (i := 3) I1.own rfl
                      have y3 := lblk_z (i := 3) I1.own
                      have d4 := tblk_cell (i := 4) I1.own rfl
                      have y4 := lblk_z (i := 4) I1.own
                      go_wp2_with fail
                      go_region_held3 (fun W => W.cell? ⟨b, 0, none⟩ = some (.string p0) ∧ W.cell? ⟨b, 1, none⟩ = some (.string p1)) (go_keep) (fail)
                      have HW := five_cells I1.own (.string p0) (.string p1) (.int .i64 mi) (.slice none 0 0) (.slice none 0 0)
                      have HB := five_below (.string p0) (.string p1) (.int .i64 mi) (.slice none 0 0) (.slice none 0 0) I1.below (Nat.le_refl _)
                      have r0 := tblk_cell (i := 0) HW rfl
                      have r1 := tblk_cell (i := 1) HW rfl
                      have r2 := tblk_cell (i := 2) HW rfl
                      have r3 := tblk_cell (i := 3) HW rfl
                      have r4 := tblk_cell (i := 4) HW rfl
                      unfold five at r0 r1 r2 r3 r4 HB
                      have HB' : Hid _ := HB
                      clear HB HW
                      go_wp2
                      refine bodyPost_ret (v := .tuple #[.agg #[.string p0, .string p1, .int .i64 mi, .slice none 0 0, .slice none 0 0], .int .i64 0]) (by simp [results, Tryz.results87, go_sem, r0, r1, r2, r3, r4]) rfl ⟨rfl, HB'.out.drew⟩
                  · rw [if_pos hM]
                    have hMB : (M != 1) = true := by simpa using hM
                    clear hM
                    go_enter Tryz.func87, Tryz.ntmps87
                    go_wp2_with fail
                    refine H1.out.mono ?_
                    rintro e w1 ⟨b, c, rfl, I0⟩
                    have s0 := I0.c0
                    have s1 := I0.c1
                    have s2 := I0.c2
                    clear H1
                    go_wp2_with fail
                    refine (HK.out _).mono ?_
                    rintro e w2 ⟨rfl, rfl⟩
                    go_wp2_with fail
                    refine (HG.out _).mono ?_
                    rintro e w3 ⟨rfl, rfl⟩
                    go_wp2_with fail
                    refine (HV.out _).mono ?_
                    rintro e w4 ⟨rfl, B4⟩
                    have I1 := I0.next B4
                    have t0 := I1.c0
                    have t1 := I1.c1
                    clear B4
                    have HW := five_cells I1.own (.string ⟨#[]⟩) (.string ⟨#[]⟩) (.int .i64 0) (.slice none 0 0) (.slice none 0 0)
                    have HB := five_below (.string ⟨#[]⟩) (.string ⟨#[]⟩) (.int .i64 0) (.slice none 0 0) (.slice none 0 0) I1.below (Nat.le_refl _)
                    have a0 := tblk_cell (i := 0) I1.own rfl
                    have z0 := lblk_z (i := 0) I1.own
                    have a1 := tblk_cell (i := 1) I1.own rfl
                    have z1 := lblk_z (i := 1) I1.own
                    have a2 := tblk_cell (i := 2) I1.own rfl
                    have z2 := lblk_z (i := 2) I1.own
                    have a3 := tblk_cell (i := 3) I1.own rfl
                    have z3 := lblk_z (i := 3) I1.own
                    have a4 := tblk_cell (i := 4) I1.own rfl
                    have z4 := lblk_z (i := 4) I1.own
                    have r0 := tblk_cell (i := 0) HW rfl
                    have r1 := tblk_cell (i := 1) HW rfl
                    have r2 := tblk_cell (i := 2) HW rfl
                    have r3 := tblk_cell (i := 3) HW rfl
                    have r4 := tblk_cell (i := 4) HW rfl
                    unfold five at r0 r1 r2 r3 r4 HB
                    have HB' : Hid _ := HB
                    clear HB HW
                    go_wp2
                    refine bodyPost_ret (v := .tuple #[.agg #[.string ⟨#[]⟩, .string ⟨#[]⟩, .int .i64 0, .slice none 0 0, .slice none 0 0], .int .i64 505]) (by simp [results, Tryz.results87, go_sem, r0, r1, r2, r3, r4]) rfl ⟨rfl, HB'.out⟩
        · rw [if_neg (fun k => by cases k.1)]
          have n47 : ((p1[0].toNat : Int) != 47) = false := by unfold bne; rw [h47]; rfl
          by_cases h512 : 512 < p1.size
          · rw [if_pos h512]
            have hlB : decide ((512 : Int) < (p1.size : Int)) = true := decide_eq_true (by omega)
            clear h512
            go_enter Tryz.func87, Tryz.ntmps87
            go_wp2_with fail
            refine H1.out.mono ?_
            rintro e w1 ⟨b, c, rfl, I0⟩
            have s0 := I0.c0
            have s1 := I0.c1
            have s2 := I0.c2
            clear H1
            go_wp2_with fail
            refine (HK.out _).mono ?_
            rintro e w2 ⟨rfl, rfl⟩
            go_wp2_with fail
            refine (HG.out _).mono ?_
            rintro e w3 ⟨rfl, rfl⟩
            have HW := five_cells I0.own (.string ⟨#[]⟩) (.string ⟨#[]⟩) (.int .i64 0) (.slice none 0 0) (.slice none 0 0)
            have HB := five_below (.string ⟨#[]⟩) (.string ⟨#[]⟩) (.int .i64 0) (.slice none 0 0) (.slice none 0 0) I0.below (Nat.le_refl _)
            have a0 := tblk_cell (i := 0) I0.own rfl
            have z0 := lblk_z (i := 0) I0.own
            have a1 := tblk_cell (i := 1) I0.own rfl
            have z1 := lblk_z (i := 1) I0.own
            have a2 := tblk_cell (i := 2) I0.own rfl
            have z2 := lblk_z (i := 2) I0.own
            have a3 := tblk_cell (i := 3) I0.own rfl
            have z3 := lblk_z (i := 3) I0.own
            have a4 := tblk_cell (i := 4) I0.own rfl
            have z4 := lblk_z (i := 4) I0.own
            have r0 := tblk_cell (i := 0) HW rfl
            have r1 := tblk_cell (i := 1) HW rfl
            have r2 := tblk_cell (i := 2) HW rfl
            have r3 := tblk_cell (i := 3) HW rfl
            have r4 := tblk_cell (i := 4) HW rfl
            unfold five at r0 r1 r2 r3 r4 HB
            have HB' : Hid _ := HB
            clear HB HW
            go_wp2
            refine bodyPost_ret (v := .tuple #[.agg #[.string ⟨#[]⟩, .string ⟨#[]⟩, .int .i64 0, .slice none 0 0, .slice none 0 0], .int .i64 414]) (by simp [results, Tryz.results87, go_sem, r0, r1, r2, r3, r4]) rfl ⟨rfl, HB'.out⟩
          · rw [if_neg h512]
            have hlB : decide ((512 : Int) < (p1.size : Int)) = false := decide_eq_false (by omega)
            clear h512
            cases ok
            · rw [if_pos rfl]
              go_enter Tryz.func87, Tryz.ntmps87
              go_wp2_with fail
              refine H1.out.mono ?_
              rintro e w1 ⟨b, c, rfl, I0⟩
              have s0 := I0.c0
              have s1 := I0.c1
              have s2 := I0.c2
              clear H1
              go_wp2_with fail
              refine (HK.out _).mono ?_
              rintro e w2 ⟨rfl, rfl⟩
              go_wp2_with fail
              refine (HG.out _).mono ?_
              rintro e w3 ⟨rfl, rfl⟩
              go_wp2_with fail
              refine (HV.out _).mono ?_
              rintro e w4 ⟨rfl, B4⟩
              have I1 := I0.next B4
              have t0 := I1.c0
              have t1 := I1.c1
              clear B4
              have HW := five_cells I1.own (.string ⟨#[]⟩) (.string ⟨#[]⟩) (.int .i64 0) (.slice none 0 0) (.slice none 0 0)
              have HB := five_below (.string ⟨#[]⟩) (.string ⟨#[]⟩) (.int .i64 0) (.slice none 0 0) (.slice none 0 0) I1.below (Nat.le_refl _)
              have a0 := tblk_cell (i := 0) I1.own rfl
              have z0 := lblk_z (i := 0) I1.own
              have a1 := tblk_cell (i := 1) I1.own rfl
              have z1 := lblk_z (i := 1) I1.own
              have a2 := tblk_cell (i := 2) I1.own rfl
              have z2 := lblk_z (i := 2) I1.own
              have a3 := tblk_cell (i := 3) I1.own rfl
              have z3 := lblk_z (i := 3) I1.own
              have a4 := tblk_cell (i := 4) I1.own rfl
              have z4 := lblk_z (i := 4) I1.own
              have r0 := tblk_cell (i := 0) HW rfl
              have r1 := tblk_cell (i := 1) HW rfl
              have r2 := tblk_cell (i := 2) HW rfl
              have r3 := tblk_cell (i := 3) HW rfl
              have r4 := tblk_cell (i := 4) HW rfl
              unfold five at r0 r1 r2 r3 r4 HB
              have HB' : Hid _ := HB
              clear HB HW
              go_wp2
              refine bodyPost_ret (v := .tuple #[.agg #[.string ⟨#[]⟩, .string ⟨#[]⟩, .int .i64 0, .slice none 0 0, .slice none 0 0], .int .i64 400]) (by simp [results, Tryz.results87, go_sem, r0, r1, r2, r3, r4]) rfl ⟨rfl, HB'.out⟩
            · rw [if_neg (by decide)]
              by_cases hM : M = 1
              · rw [if_neg (fun k => k hM)]
                subst hM
                by_cases hm : 1 < mi
                · rw [if_pos hm]
                  have hmB : decide ((1 : Int) < mi) = true := decide_eq_true hm
                  clear hm
                  go_enter Tryz.func87, Tryz.ntmps87
                  go_wp2_with fail
                  refine H1.out.mono ?_
                  rintro e w1 ⟨b, c, rfl, I0⟩
                  have s0 := I0.c0
                  have s1 := I0.c1
                  have s2 := I0.c2
                  clear H1
                  go_wp2_with fail
                  refine (HK.out _).mono ?_
                  rintro e w2 ⟨rfl, rfl⟩
                  go_wp2_with fail
                  refine (HG.out _).mono ?_
                  rintro e w3 ⟨rfl, rfl⟩
                  go_wp2_with fail
                  refine (HV.out _).mono ?_
                  rintro e w4 ⟨rfl, B4⟩
                  have I1 := I0.next B4
                  have t0 := I1.c0
                  have t1 := I1.c1
                  clear B4
                  have HW := five_cells I1.own (.string ⟨#[]⟩) (.string ⟨#[]⟩) (.int .i64 0) (.slice none 0 0) (.slice none 0 0)
                  have HB := five_below (.string ⟨#[]⟩) (.string ⟨#[]⟩) (.int .i64 0) (.slice none 0 0) (.slice none 0 0) I1.below (Nat.le_refl _)
                  have a0 := tblk_cell (i := 0) I1.own rfl
                  have z0 := lblk_z (i := 0) I1.own
                  have a1 := tblk_cell (i := 1) I1.own rfl
                  have z1 := lblk_z (i := 1) I1.own
                  have a2 := tblk_cell (i := 2) I1.own rfl
                  have z2 := lblk_z (i := 2) I1.own
                  have a3 := tblk_cell (i := 3) I1.own rfl
                  have z3 := lblk_z (i := 3) I1.own
                  have a4 := tblk_cell (i := 4) I1.own rfl
                  have z4 := lblk_z (i := 4) I1.own
                  have r0 := tblk_cell (i := 0) HW rfl
                  have r1 := tblk_cell (i := 1) HW rfl
                  have r2 := tblk_cell (i := 2) HW rfl
                  have r3 := tblk_cell (i := 3) HW rfl
                  have r4 := tblk_cell (i := 4) HW rfl
                  unfold five at r0 r1 r2 r3 r4 HB
                  have HB' : Hid _ := HB
                  clear HB HW
                  go_wp2
                  refine bodyPost_ret (v := .tuple #[.agg #[.string ⟨#[]⟩, .string ⟨#[]⟩, .int .i64 0, .slice none 0 0, .slice none 0 0], .int .i64 505]) (by simp [results, Tryz.results87, go_sem, r0, r1, r2, r3, r4]) rfl ⟨rfl, HB'.out⟩
                · rw [if_neg hm]
                  have hmB : decide ((1 : Int) < mi) = false := decide_eq_false hm
                  clear hm
                  go_enter Tryz.func87, Tryz.ntmps87
                  go_wp2_with fail
                  refine H1.out.mono ?_
                  rintro e w1 ⟨b, c, rfl, I0⟩
                  have s0 := I0.c0
                  have s1 := I0.c1
                  have s2 := I0.c2
                  clear H1
                  go_wp2_with fail
                  refine (HK.out _).mono ?_
                  rintro e w2 ⟨rfl, rfl⟩
                  go_wp2_with fail
                  refine (HG.out _).mono ?_
                  rintro e w3 ⟨rfl, rfl⟩
                  go_wp2_with fail
                  refine (HV.out _).mono ?_
                  rintro e w4 ⟨rfl, B4⟩
                  have I1 := I0.next B4
                  have t0 := I1.c0
                  have t1 := I1.c1
                  clear B4
                  have nb := I0.ne
                  have nb' : ¬ w.heap.size = b := fun e => nb e.symm
                  have d0 := tblk_cell (i := 0) I1.own rfl
                  have y0 := lblk_z (i := 0) I1.own
                  have d1 := tblk_cell (i := 1) I1.own rfl
                  have y1 := lblk_z (i := 1) I1.own
                  have d2 := tblk_cell (i := 2) I1.own rfl
                  have y2 := lblk_z (i := 2) I1.own
                  have d3 := tblk_cell (i := 3) I1.own rfl
                  have y3 := lblk_z (i := 3) I1.own
                  have d4 := tblk_cell (i := 4) I1.own rfl
                  have y4 := lblk_z (i := 4) I1.own
                  go_wp2_with fail
                  go_region_held3 (fun W => W.cell? ⟨b, 0, none⟩ = some (.string p0) ∧ W.cell? ⟨b, 1, none⟩ = some (.string p1)) (go_keep) (fail)
                  have HW := five_cells I1.own (.string p0) (.string p1) (.int .i64 mi) (.slice none 0 0) (.slice none 0 0)
                  have HB := five_below (.string p0) (.string p1) (.int .i64 mi) (.slice none 0 0) (.slice none 0 0) I1.below (Nat.le_refl _)
                  have r0 := tblk_cell (i := 0) HW rfl
                  have r1 := tblk_cell (i := 1) HW rfl
                  have r2 := tblk_cell (i := 2) HW rfl
                  have r3 := tblk_cell (i := 3) HW rfl
                  have r4 := tblk_cell (i := 4) HW rfl
                  unfold five at r0 r1 r2 r3 r4 HB
                  have HB' : Hid _ := HB
                  clear HB HW
                  go_wp2
                  refine bodyPost_ret (v := .tuple #[.agg #[.string p0, .string p1, .int .i64 mi, .slice none 0 0, .slice none 0 0], .int .i64 0]) (by simp [results, Tryz.results87, go_sem, r0, r1, r2, r3, r4]) rfl ⟨rfl, HB'.out.drew⟩
              · rw [if_pos hM]
                have hMB : (M != 1) = true := by simpa using hM
                clear hM
                go_enter Tryz.func87, Tryz.ntmps87
                go_wp2_with fail
                refine H1.out.mono ?_
                rintro e w1 ⟨b, c, rfl, I0⟩
                have s0 := I0.c0
                have s1 := I0.c1
                have s2 := I0.c2
                clear H1
                go_wp2_with fail
                refine (HK.out _).mono ?_
                rintro e w2 ⟨rfl, rfl⟩
                go_wp2_with fail
                refine (HG.out _).mono ?_
                rintro e w3 ⟨rfl, rfl⟩
                go_wp2_with fail
                refine (HV.out _).mono ?_
                rintro e w4 ⟨rfl, B4⟩
                have I1 := I0.next B4
                have t0 := I1.c0
                have t1 := I1.c1
                clear B4
                have HW := five_cells I1.own (.string ⟨#[]⟩) (.string ⟨#[]⟩) (.int .i64 0) (.slice none 0 0) (.slice none 0 0)
                have HB := five_below (.string ⟨#[]⟩) (.string ⟨#[]⟩) (.int .i64 0) (.slice none 0 0) (.slice none 0 0) I1.below (Nat.le_refl _)
                have a0 := tblk_cell (i := 0) I1.own rfl
                have z0 := lblk_z (i := 0) I1.own
                have a1 := tblk_cell (i := 1) I1.own rfl
                have z1 := lblk_z (i := 1) I1.own
                have a2 := tblk_cell (i := 2) I1.own rfl
                have z2 := lblk_z (i := 2) I1.own
                have a3 := tblk_cell (i := 3) I1.own rfl
                have z3 := lblk_z (i := 3) I1.own
                have a4 := tblk_cell (i := 4) I1.own rfl
                have z4 := lblk_z (i := 4) I1.own
                have r0 := tblk_cell (i := 0) HW rfl
                have r1 := tblk_cell (i := 1) HW rfl
                have r2 := tblk_cell (i := 2) HW rfl
                have r3 := tblk_cell (i := 3) HW rfl
                have r4 := tblk_cell (i := 4) HW rfl
                unfold five at r0 r1 r2 r3 r4 HB
                have HB' : Hid _ := HB
                clear HB HW
                go_wp2
                refine bodyPost_ret (v := .tuple #[.agg #[.string ⟨#[]⟩, .string ⟨#[]⟩, .int .i64 0, .slice none 0 0, .slice none 0 0], .int .i64 505]) (by simp [results, Tryz.results87, go_sem, r0, r1, r2, r3, r4]) rfl ⟨rfl, HB'.out⟩

set_option maxRecDepth 100000 in
set_option maxHeartbeats 4000000 in
theorem rreq_other (s : ByteArray) (w : World) (hs : s.size ≤ 4294967281) (hp : ¬ (partsB s).length = 3) :
    Calls Tryz.prog 87 #[.string s] w fun e w' => e = .returned (.tuple #[rqV (rqNo 400), .int .i64 (rqNo 400).code]) ∧ Below w.heap.size w w' := by
  have C0 : Below w.heap.size w (w.alloc (.cells #[.string ⟨#[]⟩, .string ⟨#[]⟩, .int .i64 0, .slice none 0 0, .slice none 0 0] 43)) := (Below.refl _ _).alloc (Nat.le_refl _) _
  have hg0 := tblk_new w (.cells #[.string ⟨#[]⟩, .string ⟨#[]⟩, .int .i64 0, .slice none 0 0, .slice none 0 0] 43)
  have H1 : Hid (Calls Tryz.prog 118 #[.string s] (w.alloc (.cells #[.string ⟨#[]⟩, .string ⟨#[]⟩, .int .i64 0, .slice none 0 0, .slice none 0 0] 43)) fun e w' => ∃ b c, e = .returned (.slice (some ⟨b, 0, none⟩) (partsB s).length c) ∧ Below w.heap.size w w' ∧ w'.heap[w.heap.size]? = some (.cells #[.string ⟨#[]⟩, .string ⟨#[]⟩, .int .i64 0, .slice none 0 0, .slice none 0 0] 43)) := by
    refine (rparts_any s _ hs).mono ?_
    rintro e w' ⟨g, c, he, hO, B⟩
    exact ⟨g, c, he, C0.trans (B.mono C0.size), tblk_below hg0 B⟩
  have hn : (((partsB s).length : Int) != 3) = true := by
    simp
    omega
  clear hp hs hg0 C0
  generalize (partsB s).length = n at *
  go_enter Tryz.func87, Tryz.ntmps87
  go_wp2_with fail
  refine H1.out.mono ?_
  rintro e w1 ⟨b, c, rfl, C1, hg1⟩
  clear H1
  have HW := five_cells hg1 (.string ⟨#[]⟩) (.string ⟨#[]⟩) (.int .i64 0) (.slice none 0 0) (.slice none 0 0)
  have HB := five_below (.string ⟨#[]⟩) (.string ⟨#[]⟩) (.int .i64 0) (.slice none 0 0) (.slice none 0 0) C1 (Nat.le_refl _)
  have a0 := tblk_cell (i := 0) hg1 rfl
  have z0 := lblk_z (i := 0) hg1
  have a1 := tblk_cell (i := 1) hg1 rfl
  have z1 := lblk_z (i := 1) hg1
  have a2 := tblk_cell (i := 2) hg1 rfl
  have z2 := lblk_z (i := 2) hg1
  have a3 := tblk_cell (i := 3) hg1 rfl
  have z3 := lblk_z (i := 3) hg1
  have a4 := tblk_cell (i := 4) hg1 rfl
  have z4 := lblk_z (i := 4) hg1
  have r0 := tblk_cell (i := 0) HW rfl
  have r1 := tblk_cell (i := 1) HW rfl
  have r2 := tblk_cell (i := 2) HW rfl
  have r3 := tblk_cell (i := 3) HW rfl
  have r4 := tblk_cell (i := 4) HW rfl
  unfold five at r0 r1 r2 r3 r4 HB
  have HB' : Hid _ := HB
  clear HB HW
  go_wp2
  refine bodyPost_ret (v := .tuple #[.agg #[.string ⟨#[]⟩, .string ⟨#[]⟩, .int .i64 0, .slice none 0 0, .slice none 0 0], .int .i64 400]) (by simp [results, Tryz.results87, go_sem, r0, r1, r2, r3, r4]) rfl ⟨rfl, HB'.out⟩

theorem rreq_any (s : ByteArray) (w : World) (hs : s.size ≤ 4294967281) :
    Calls Tryz.prog 87 #[.string s] w fun e w' => e = .returned (.tuple #[rqV (refQ s), .int .i64 (refQ s).code]) ∧ Below w.heap.size w w' := by
  unfold refQ
  split
  · rename_i p0 p1 p2 h
    exact rreq_three p0 p1 p2 s w hs h
  · rename_i h
    refine rreq_other s w hs ?_
    intro h3
    match hl : partsB s, h3 with
    | [a, b, c], _ => exact h a b c hl
end Go.Proofs.YtemmmdhmkegaaaaGreatDoor

/- A request's line is what the reference says it is. -/
namespace Go.Proofs.YtemmmdhmkegaaaaGreatDoor
open Go.RowKit
set_option linter.unusedVariables false

def vF (x y : Fin 10) : List UInt8 := [72, 84, 84, 80, 47, UInt8.ofNat (48 + x.val), 46, UInt8.ofNat (48 + y.val)]
theorem v_min : ∀ x y : Fin 10, (minP ⟨(vF x y).toArray⟩).2 = (decide (x.val = 1) && decide (y.val ≤ 1)) ∧ ((minP ⟨(vF x y).toArray⟩).2 = true → (minP ⟨(vF x y).toArray⟩).1 = (y.val : Int)) := by decide +kernel
theorem v_ver : ∀ x y : Fin 10, verP ⟨(vF x y).toArray⟩ = true := by decide +kernel
theorem v_ref : ∀ x y : Fin 10, rverL (vF x y) = ((x.val : Int), (y.val : Int), true) := by decide +kernel
theorem dig_fin {a : UInt8} (h : spanP 48 57 (a.toNat : Int) = true) : ∃ x : Fin 10, a = UInt8.ofNat (48 + x.val) := by
  have k : ∀ n : Fin 256, spanP 48 57 ((UInt8.ofNat n.val).toNat : Int) = true → ∃ x : Fin 10, UInt8.ofNat n.val = UInt8.ofNat (48 + x.val) := by decide +kernel
  have q := k ⟨a.toNat, a.toNat_lt⟩
  simp only [UInt8.ofNat_toNat] at q
  exact q h
theorem rver_form {l : List UInt8} (h : (rverL l).2.2 = true) : ∃ x y, l = vF x y := by
  unfold rverL at h
  split at h
  · rename_i a b c d e f g i
    split at h
    · rename_i hc
      obtain ⟨h1, h2, h3, h4⟩ := hc
      obtain ⟨x, rfl⟩ := dig_fin h2
      obtain ⟨y, rfl⟩ := dig_fin h4
      have e1 := eq_of_beq h1
      simp only [List.cons.injEq, and_true] at e1
      obtain ⟨rfl, rfl, rfl, rfl, rfl⟩ := e1
      subst h3
      exact ⟨x, y, rfl⟩
    · cases h
  · cases h
theorem ver_form {p : ByteArray} (h : verP p = true) : ∃ x y, p.data.toList = vF x y := by
  unfold verP at h
  rw [Bool.and_eq_true] at h
  obtain ⟨h1, h2⟩ := h
  have hc : cutP p http = p.extract 5 p.size := by unfold cutP; rw [if_pos h1]; rfl
  rw [hc] at h2
  unfold hasP at h1
  rw [Bool.and_eq_true] at h1
  obtain ⟨h3, h4⟩ := h1
  have e4 := eq_of_beq h4
  rw [ByteArray.toList_eq, ByteArray.toList_eq] at e4
  have e5 : (p.extract 0 5).data.toList = p.data.toList.take 5 := by rw [Lib.extract_data]; rfl
  have e6 : (p.extract 5 p.size).data.toList = p.data.toList.drop 5 := by
    rw [Lib.extract_data, List.take_of_length_le (by rw [List.length_drop]; exact Nat.le_refl _)]
  rw [e6] at h2
  have e7 : p.data.toList.take 5 = [72, 84, 84, 80, 47] := by
    rw [← e5]
    exact e4
  unfold verN at h2
  split at h2
  · rename_i a b c e8
    rw [Bool.and_eq_true, Bool.and_eq_true] at h2
    obtain ⟨ha, hb, hc⟩ := h2
    obtain ⟨x, rfl⟩ := dig_fin (show spanP 48 57 (a.toNat : Int) = true from ha)
    obtain ⟨y, rfl⟩ := dig_fin (show spanP 48 57 (c.toNat : Int) = true from hc)
    have hb' : b = 46 := UInt8.toNat_inj.1 (by have e : (46 : UInt8).toNat = 46 := rfl; have k := eq_of_beq hb; omega)
    subst hb'
    refine ⟨x, y, ?_⟩
    rw [← List.take_append_drop 5 p.data.toList, e7, e8]
    rfl
  · cases h2
theorem three_ref (p0 p1 p2 : ByteArray) : rq3 p0 p1 p2 = rqR p0 p1 p2 := by
  have hver : (if verP p2 = false then rqNo 400 else if (minP p2).2 = false then rqNo 505 else (⟨p0, p1, (minP p2).1, 0⟩ : Rq)) =
      (if (rverL p2.data.toList).2.2 = false then rqNo 400 else if ¬ (rverL p2.data.toList).1 = 1 then rqNo 505 else if 1 < (rverL p2.data.toList).2.1 then rqNo 505 else ⟨p0, p1, (rverL p2.data.toList).2.1, 0⟩) := by
    by_cases hf : ∃ x y, p2.data.toList = vF x y
    · obtain ⟨x, y, e⟩ := hf
      obtain rfl : p2 = ⟨(vF x y).toArray⟩ := ba_eq (by rw [e])
      have k1 := v_min x y
      have k2 := v_ver x y
      have k3 := v_ref x y
      have e9 : (⟨(vF x y).toArray⟩ : ByteArray).data.toList = vF x y := rfl
      rw [e9, k3, k2]
      simp only
      rw [if_neg (show ¬ ((true : Bool) = false) by decide), if_neg (show ¬ ((true : Bool) = false) by decide)]
      by_cases hx : x.val = 1
      · rw [if_neg (show ¬ ¬ ((x.val : Int) = 1) from fun k => k (by omega))]
        by_cases hy : y.val ≤ 1
        · have q : (minP ⟨(vF x y).toArray⟩).2 = true := by rw [k1.1, decide_eq_true hx, decide_eq_true hy]; rfl
          rw [if_neg (by rw [q]; decide), if_neg (by omega), k1.2 q]
        · have q : (minP ⟨(vF x y).toArray⟩).2 = false := by rw [k1.1, decide_eq_false hy, Bool.and_false]
          rw [if_pos q, if_pos (by omega)]
      · have q : (minP ⟨(vF x y).toArray⟩).2 = false := by rw [k1.1, decide_eq_false hx, Bool.false_and]
        rw [if_pos q, if_pos (by omega)]
    · have k1 : verP p2 = false := by
        cases h : verP p2
        · rfl
        · exact absurd (ver_form h) hf
      have k2 : (rverL p2.data.toList).2.2 = false := by
        cases h : (rverL p2.data.toList).2.2
        · rfl
        · exact absurd (rver_form h) hf
      rw [if_pos k1, if_pos k2]
  unfold rq3 rqR mthP tarP
  rw [hver]
  generalize (if (rverL p2.data.toList).2.2 = false then rqNo 400 else if ¬ (rverL p2.data.toList).1 = 1 then rqNo 505 else if 1 < (rverL p2.data.toList).2.1 then rqNo 505 else ⟨p0, p1, (rverL p2.data.toList).2.1, 0⟩) = E
  generalize (allB tokP p0.data.toList && decide (0 < p0.size)) = tk
  generalize tgtP p1 = tg
  generalize decide (p1.data.toList.head? = some 47) = hd
  generalize eqS p1 ⟨#[42]⟩ = st
  generalize eqS p0 ⟨#[79, 80, 84, 73, 79, 78, 83]⟩ = op
  by_cases h20 : 20 < p0.size
  · rw [decide_eq_false (show ¬ p0.size ≤ 20 by omega), Bool.false_and, if_pos rfl, if_pos h20]
    cases tk <;> simp
  · rw [decide_eq_true (show p0.size ≤ 20 by omega), Bool.true_and, if_neg h20]
    cases tk <;> cases tg <;> cases hd <;> cases st <;> cases op <;> simp
theorem req_ref (s : ByteArray) : rqP s = refQ s := by
  unfold rqP refQ
  rcases four_parts s with h | ⟨h1, h2⟩
  · rw [h]
    generalize partsB s = P
    match P with
    | [] => rfl
    | [_] => rfl
    | [_, _] => rfl
    | [p0, p1, p2] => exact three_ref p0 p1 p2
    | _ :: _ :: _ :: _ :: _ => rfl
  · split
    · rename_i p0 p1 p2 h
      rw [h] at h1
      cases h1
    · split
      · rename_i p0 p1 p2 h
        rw [h] at h2
        simp at h2
      · rfl
end Go.Proofs.YtemmmdhmkegaaaaGreatDoor
