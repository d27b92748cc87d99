/- Routes in memory; Match: what it answers of all routes and targets. -/
import Derived.Test.YtjfcoihfjjcooaaRtC
import Derived.Deep.QuietTactic
import Derived.BigQuiet
import Derived.Deep.Slices
namespace Go.Proofs.Ytjfcoihfjjcooaa
open Go.RowKit
set_option linter.unusedVariables false

structure RouteP where
  p : ByteArray
  u : ByteArray
  s : ByteArray
instance : Inhabited RouteP := ⟨⟨⟨#[]⟩, ⟨#[]⟩, ⟨#[]⟩⟩⟩
theorem rt_slice_inj {a b : Option Addr} {n m c d : Nat} (h : Value.slice a n c = .slice b m d) : a = b ∧ n = m ∧ c = d := by cases h; exact ⟨rfl, rfl, rfl⟩
/-- A slice of routes, in a block below B. -/
def RtAt (w : World) (g o : Nat) (r : RouteP) : Prop := w.cell? ⟨g, o, none⟩ = some (.string r.p) ∧ w.cell? ⟨g, o + 1, none⟩ = some (.string r.u) ∧ w.cell? ⟨g, o + 2, none⟩ = some (.string r.s)
def Rts (B : Nat) (w : World) (v : Value) (rs : List RouteP) : Prop := ∃ a c, v = .slice a rs.length c ∧ (a = none → c = 0) ∧ rs.length ≤ c ∧ c ≤ maxLen ∧ (0 < rs.length → ∃ g off, a = some ⟨g, off, none⟩ ∧ g < B ∧ ∀ (j : Nat) (hj : j < rs.length), RtAt w g (off + j * 3) rs[j])
theorem RtAt.keep {B : Nat} {w w' : World} {g o : Nat} {r : RouteP} (h : RtAt w g o r) (hg : g < B) (b : Below B w w') : RtAt w' g o r :=
  ⟨(b.cell (p := ⟨g, _, none⟩) hg).trans h.1, (b.cell (p := ⟨g, _, none⟩) hg).trans h.2.1, (b.cell (p := ⟨g, _, none⟩) hg).trans h.2.2⟩
theorem Rts.keep {B : Nat} {w w' : World} {v : Value} {rs : List RouteP} (h : Rts B w v rs) (b : Below B w w') : Rts B w' v rs := by
  obtain ⟨a, c, e, h1, h2, h3, h4⟩ := h
  refine ⟨a, c, e, h1, h2, h3, fun hp => ?_⟩
  obtain ⟨g, off, ea, hg, hc⟩ := h4 hp
  exact ⟨g, off, ea, hg, fun j hj => (hc j hj).keep hg b⟩
theorem Rts.mono {B C : Nat} {w : World} {v : Value} {rs : List RouteP} (h : Rts B w v rs) (b : B ≤ C) : Rts C w v rs := by
  obtain ⟨a, c, e, h1, h2, h3, h4⟩ := h
  refine ⟨a, c, e, h1, h2, h3, fun hp => ?_⟩
  obtain ⟨g, off, ea, hg, hc⟩ := h4 hp
  exact ⟨g, off, ea, Nat.lt_of_lt_of_le hg b, hc⟩
theorem Rts.len {B : Nat} {w : World} {a : Option Addr} {n c : Nat} {rs : List RouteP} (h : Rts B w (.slice a n c) rs) : rs.length = n ∧ n ≤ c ∧ c ≤ maxLen := by
  obtain ⟨a', c', e, h1, h2, h3, _⟩ := h
  obtain ⟨rfl, rfl, rfl⟩ := rt_slice_inj e
  exact ⟨rfl, h2, h3⟩
def RBd (rs : List RouteP) : Prop := ∀ r ∈ rs, r.p.size ≤ 140737488355328 ∧ r.s.size ≤ 140737488355328

/-- The first of the longest that fit, of the first k. -/
def Best (rs : List RouteP) (t : ByteArray) (k : Nat) (m : Int) : Prop :=
  (m = -1 ∧ ∀ (j : Nat) (hj : j < rs.length), j < k → fitT rs[j].p t = false) ∨
  ∃ (b : Nat) (hb : b < rs.length), m = b ∧ b < k ∧ fitT rs[b].p t = true ∧ ∀ (j : Nat) (hj : j < rs.length), j < k → fitT rs[j].p t = true → rs[j].p.size ≤ rs[b].p.size ∧ (j < b → rs[j].p.size < rs[b].p.size)
theorem Best.zero (rs : List RouteP) (t : ByteArray) : Best rs t 0 (-1) := .inl ⟨rfl, fun j _ h => absurd h (Nat.not_lt_zero _)⟩
theorem Best.skip {rs : List RouteP} {t : ByteArray} {k : Nat} {m : Int} (h : Best rs t k m) (hk : k < rs.length) (hf : fitT rs[k].p t = false) : Best rs t (k + 1) m := by
  rcases h with ⟨rfl, h⟩ | ⟨b, hb, rfl, hbk, h1, h2⟩
  · refine .inl ⟨rfl, fun j hj hjk => ?_⟩
    rcases Nat.lt_or_ge j k with c | c
    · exact h j hj c
    · have : j = k := by omega
      subst this; exact hf
  · refine .inr ⟨b, hb, rfl, by omega, h1, fun j hj hjk hfj => ?_⟩
    rcases Nat.lt_or_ge j k with c | c
    · exact h2 j hj c hfj
    · have : j = k := by omega
      subst this; rw [hf] at hfj; cases hfj
theorem Best.first {rs : List RouteP} {t : ByteArray} {k : Nat} (h : Best rs t k (-1)) (hk : k < rs.length) (hf : fitT rs[k].p t = true) : Best rs t (k + 1) k := by
  rcases h with ⟨_, h⟩ | ⟨b, hb, e, _⟩
  · refine .inr ⟨k, hk, rfl, by omega, hf, fun j hj hjk hfj => ?_⟩
    rcases Nat.lt_or_ge j k with c | c
    · rw [h j hj c] at hfj; cases hfj
    · have : j = k := by omega
      subst this; exact ⟨Nat.le_refl _, fun q => by omega⟩
  · omega
theorem Best.more {rs : List RouteP} {t : ByteArray} {k b : Nat} (h : Best rs t k b) (hb : b < rs.length) (hk : k < rs.length) (hf : fitT rs[k].p t = true) (hl : rs[b].p.size < rs[k].p.size) : Best rs t (k + 1) k := by
  rcases h with ⟨e, _⟩ | ⟨b', hb', e, hbk, h1, h2⟩
  · omega
  · have : b' = b := by omega
    subst this
    refine .inr ⟨k, hk, rfl, by omega, hf, fun j hj hjk hfj => ?_⟩
    rcases Nat.lt_or_ge j k with c | c
    · have := (h2 j hj c hfj).1
      exact ⟨by omega, fun _ => by omega⟩
    · have : j = k := by omega
      subst this; exact ⟨Nat.le_refl _, fun q => by omega⟩
theorem Best.less {rs : List RouteP} {t : ByteArray} {k b : Nat} (h : Best rs t k b) (hb : b < rs.length) (hk : k < rs.length) (hl : ¬ rs[b].p.size < rs[k].p.size) : Best rs t (k + 1) b := by
  rcases h with ⟨e, _⟩ | ⟨b', hb', e, hbk, h1, h2⟩
  · omega
  · have : b' = b := by omega
    subst this
    refine .inr ⟨b', hb', rfl, by omega, h1, fun j hj hjk hfj => ?_⟩
    rcases Nat.lt_or_ge j k with c | c
    · exact h2 j hj c hfj
    · have : j = k := by omega
      subst this; exact ⟨by omega, fun q => by omega⟩
theorem Best.bd {rs : List RouteP} {t : ByteArray} {k : Nat} {m : Int} (h : Best rs t k m) : m = -1 ∨ ∃ b : Nat, m = b ∧ b < rs.length ∧ b < k := by
  rcases h with ⟨rfl, _⟩ | ⟨b, hb, rfl, hbk, _⟩
  · exact .inl rfl
  · exact .inr ⟨b, rfl, hb, hbk⟩
theorem Best.one {rs : List RouteP} {t : ByteArray} {m n : Int} (h : Best rs t rs.length m) (h' : Best rs t rs.length n) : m = n := by
  rcases h with ⟨rfl, h⟩ | ⟨b, hb, rfl, _, h1, h2⟩
  · rcases h' with ⟨rfl, _⟩ | ⟨b, hb, rfl, _, h1, _⟩
    · rfl
    · rw [h b hb hb] at h1; cases h1
  · rcases h' with ⟨rfl, h'⟩ | ⟨b', hb', rfl, _, h1', h2'⟩
    · rw [h' b hb hb] at h1; cases h1
    · have x := h2 b' hb' hb' h1'
      have y := h2' b hb hb h1
      rcases Nat.lt_trichotomy b b' with c | c | c
      · have := y.2 c; omega
      · rw [c]
      · have := x.2 c; omega

set_option maxRecDepth 100000 in
set_option maxHeartbeats 2000000 in
theorem match_any (rs : List RouteP) (a : Option Addr) (c : Nat) (t : ByteArray) (w : World) (hf : Rts w.heap.size w (.slice a rs.length c) rs) (hb : RBd rs) (ht : t.size < 4294967281) (hM : MaxL w) :
    Calls Try.prog 8 #[.slice a rs.length c, .string t] w fun e w' => ∃ m, e = .returned (.int .i64 m) ∧ Best rs t rs.length m ∧ Below w.heap.size w w' := by
  rcases Nat.eq_zero_or_pos rs.length with h0 | hp
  · have he : rs = [] := List.eq_nil_of_length_eq_zero h0
    subst he
    clear hf hb h0 hM ht
    go_enter Try.func8, Try.ntmps8
    go_wp2_with fail
    refine wp_loop_rounds 1 ?_
    rw [rounds_succ]
    go_wp2
    go_ret
    exact ⟨_, rfl, Best.zero _ _, Below.refl _ _⟩
  · obtain ⟨a', c', e, hnil, h1, h2, h3⟩ := hf
    obtain ⟨rfl, _, rfl⟩ := rt_slice_inj e
    obtain ⟨g, off, rfl, hg, hc⟩ := h3 hp
    have HC : Hid (∀ (j : Nat) (hj : j < rs.length), RtAt w g (off + j * 3) rs[j]) := hc
    have HBD : Hid (RBd rs) := hb
    have HT : Hid (t.size < 4294967281) := ht
    have HM : Hid (MaxL w) := hM
    have hn : rs.length ≤ 9223372036854775807 := by unfold maxLen at h2; omega
    clear e hnil h1 h2 h3 hc hb ht hM
    go_enter Try.func8, Try.ntmps8
    go_wp2_with fail
    go_loopw [5, 10] (fun v vi wr => ∃ (k : Nat) (m : Int), k ≤ rs.length ∧ vi = .int .i64 k ∧ v = .int .i64 m ∧ Best rs t k m ∧ Below w.heap.size w wr) (fun _ vi _ => rs.length - (intOf vi).toNat)
    case atStart => exact ⟨0, -1, Nat.zero_le _, rfl, rfl, Best.zero _ _, Below.refl _ _⟩
    case round =>
      obtain ⟨k, m, hk, rfl, rfl, hbest, hB⟩ := hrel
      by_cases hlt : k < rs.length
      · have hcc := (HC.out k hlt).keep hg hB
        obtain ⟨hc1, hc2, hc3⟩ := hcc
        have hsz := HBD.out rs[k] (List.getElem_mem hlt)
        have E1 : Below w.heap.size w (wr.alloc (.cells #[.string rs[k].p, .string rs[k].u, .string rs[k].s] 26)) := hB.alloc hB.size _
        have HF : Hid (∀ n, Calls Try.prog 12 #[.string rs[k].p, .string t] ((wr.alloc (.cells #[.string rs[k].p, .string rs[k].u, .string rs[k].s] 26)).drewN n) fun e w' => e = .returned (.bool (fitT rs[k].p t)) ∧ ∃ n', w' = ((wr.alloc (.cells #[.string rs[k].p, .string rs[k].u, .string rs[k].s] 26)).drewN n).drewN n') := fun n => fits_q _ _ _ HT.out (by unfold maxLen; omega) (HM.out.below (E1.trans (rt_drewN _ _ _)))
        have HS := Best.skip hbest hlt
        have H1 : m = -1 → fitT rs[k].p t = true → Best rs t (k + 1) k := fun e hf => Best.first (by rw [← e]; exact hbest) hlt hf
        rcases hbest.bd with rfl | ⟨b, rfl, hbl, hbk⟩
        · have HBS : Hid (fitT rs[k].p t = false → Best rs t (k + 1) (-1)) := HS
          have HB1 : Hid (fitT rs[k].p t = true → Best rs t (k + 1) k) := H1 rfl
          clear HS H1 hbest hsz
          generalize fitT rs[k].p t = F at *
          generalize rs[k].p = xp at *
          generalize rs[k].u = xu at *
          generalize rs[k].s = xs at *
          cases F
          · have HBT : Hid (Best rs t (k + 1) (-1)) := HBS.out rfl
            go_wp2_with fail
            go_quiet ((go_at_call 12; exact Calls.quiet_of (HF.out _)))
            go_wp2
            go_roundw
            case rel => exact ⟨k + 1, -1, by omega, by go_num, rfl, HBT.out, E1.trans (rt_drewN _ _ _)⟩
            case measure => simp [intOf]; omega
          · have HBT : Hid (Best rs t (k + 1) k) := HB1.out rfl
            go_wp2_with fail
            go_quiet ((go_at_call 12; exact Calls.quiet_of (HF.out _)))
            go_wp2
            go_roundw
            case rel => exact ⟨k + 1, k, by omega, by go_num, rfl, HBT.out, E1.trans (rt_drewN _ _ _)⟩
            case measure => simp [intOf]; omega
        · have hcb := ((HC.out b hbl).keep hg hB).1
          have hg2 : g < wr.heap.size := Nat.lt_of_lt_of_le hg hB.size
          have hzb := HBD.out rs[b] (List.getElem_mem hbl)
          have HBS : Hid (fitT rs[k].p t = false → Best rs t (k + 1) b) := HS
          have HB2 : Hid (fitT rs[k].p t = true → rs[b].p.size < rs[k].p.size → Best rs t (k + 1) k) := fun hf hl => Best.more hbest hbl hlt hf hl
          have HB3 : Hid (¬ rs[b].p.size < rs[k].p.size → Best rs t (k + 1) b) := fun hl => Best.less hbest hbl hlt hl
          clear HS H1 hbest
          generalize fitT rs[k].p t = F at *
          generalize rs[k].p = xp at *
          generalize rs[k].u = xu at *
          generalize rs[k].s = xs at *
          generalize rs[b].p = yp at *
          have hnb : decide ((b : Int) < 0) = false := decide_eq_false (by omega)
          cases F
          · have HBT : Hid (Best rs t (k + 1) b) := HBS.out rfl
            clear HB2 HB3 hzb hsz
            go_wp2_with fail
            go_quiet ((go_at_call 12; exact Calls.quiet_of (HF.out _)))
            go_wp2
            go_roundw
            case rel => exact ⟨k + 1, b, by omega, by go_num, rfl, HBT.out, E1.trans (rt_drewN _ _ _)⟩
            case measure => simp [intOf]; omega
          · by_cases hl : yp.size < xp.size
            · have hd : decide (yp.size < xp.size) = true := decide_eq_true hl
              have HBT : Hid (Best rs t (k + 1) k) := HB2.out rfl hl
              clear HB2 HB3 HBS hl
              go_wp2_with fail
              go_quiet ((go_at_call 12; exact Calls.quiet_of (HF.out _)))
              go_wp2
              go_roundw
              case rel => exact ⟨k + 1, k, by omega, by go_num, rfl, HBT.out, E1.trans (rt_drewN _ _ _)⟩
              case measure => simp [intOf]; omega
            · have hd : decide (yp.size < xp.size) = false := decide_eq_false hl
              have HBT : Hid (Best rs t (k + 1) b) := HB3.out hl
              clear HB2 HB3 HBS hl
              go_wp2_with fail
              go_quiet ((go_at_call 12; exact Calls.quiet_of (HF.out _)))
              go_wp2
              go_roundw
              case rel => exact ⟨k + 1, b, by omega, by go_num, rfl, HBT.out, E1.trans (rt_drewN _ _ _)⟩
              case measure => simp [intOf]; omega
      · have hkl : k = rs.length := by omega
        subst hkl
        go_wp2
        go_ret
        exact ⟨m, rfl, hbest, hB⟩
end Go.Proofs.Ytjfcoihfjjcooaa
