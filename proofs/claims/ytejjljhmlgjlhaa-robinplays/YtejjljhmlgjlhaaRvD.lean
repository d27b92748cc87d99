/- The next flow of those that want something (tollbarref16.pick). -/
import Derived.Test.YtejjljhmlgjlhaaRvC
namespace Go.Proofs.Ytejjljhmlgjlhaa
open Go.RowKit
set_option linter.unusedVariables false

/-- The least connection so far; the least one above the last so far. -/
def BI (F : List Fl) (i : Nat) (b : Int) : Prop := (b = -1 ∧ ∀ j, j < i → (F.getD j (0, 0)).2 ≤ 0) ∨ ∃ p : Nat, p < i ∧ b = (p : Int) ∧ 0 < (F.getD p (0, 0)).2 ∧ ∀ j, j < i → 0 < (F.getD j (0, 0)).2 → (F.getD p (0, 0)).1 ≤ (F.getD j (0, 0)).1
def AI (any : Bool) (L : Int) (F : List Fl) (i : Nat) (a : Int) : Prop := (a = -1 ∧ ∀ j, j < i → 0 < (F.getD j (0, 0)).2 → any = true → (F.getD j (0, 0)).1 ≤ L) ∨ ∃ p : Nat, p < i ∧ a = (p : Int) ∧ any = true ∧ 0 < (F.getD p (0, 0)).2 ∧ L < (F.getD p (0, 0)).1 ∧ ∀ j, j < i → 0 < (F.getD j (0, 0)).2 → L < (F.getD j (0, 0)).1 → (F.getD p (0, 0)).1 ≤ (F.getD j (0, 0)).1
/-- The last connection, as the program keeps it. -/
def LaS (any : Bool) (L la : Int) : Prop := (any = true ∧ L = la) ∨ (any = false ∧ la = 9223372036854775807)
theorem pick_end {any : Bool} {L la : Int} {F : List Fl} {a b : Int} (hs : LaS any L la) (hl : InR la) (hr : ∀ f ∈ F, InR f.1) (hB : BI F F.length b) (hA : AI any L F F.length a) :
    ((if 0 ≤ a then a else b) = -1 ∧ ∀ j, j < F.length → (F.getD j (0, 0)).2 ≤ 0) ∨ ∃ p : Nat, (if 0 ≤ a then a else b) = (p : Int) ∧ Pck la F p := by
  have hin : ∀ j, j < F.length → InR (F.getD j (0, 0)).1 := fun j hj => hr _ (getD_mem hj)
  rcases hA with ⟨rfl, ha⟩ | ⟨p, hp, rfl, hany, hw, hL, hm⟩
  · rw [if_neg (by omega)]
    rcases hB with ⟨rfl, hb⟩ | ⟨p, hp, rfl, hw, hm⟩
    · exact .inl ⟨rfl, hb⟩
    · refine .inr ⟨p, rfl, hp, hw, fun j hj hwj => ?_⟩
      have h1 := hm j hj hwj
      have h2 := hin p hp
      have h3 := hin j hj
      have h4 : (F.getD p (0, 0)).1 ≤ la ∧ (F.getD j (0, 0)).1 ≤ la := by
        rcases hs with ⟨q1, q2⟩ | ⟨q1, q2⟩
        · rw [← q2]; exact ⟨ha p hp hw q1, ha j hj hwj q1⟩
        · rw [q2]; exact ⟨h2.2, h3.2⟩
      unfold InR awayK at *
      omega
  · rw [if_pos (by omega)]
    refine .inr ⟨p, rfl, hp, hw, fun j hj hwj => ?_⟩
    have q2 : L = la := by
      rcases hs with ⟨_, q2⟩ | ⟨q1, _⟩
      · exact q2
      · rw [hany] at q1; cases q1
    rw [q2] at hL hm
    have h2 := hin p hp
    have h3 := hin j hj
    have h5 := hm j hj hwj
    unfold InR awayK at *
    omega
/-- What pick answers. -/
def PickR (la : Int) (F : List Fl) (r : Int) : Prop := (r = -1 ∧ ∀ j, j < F.length → (F.getD j (0, 0)).2 ≤ 0) ∨ ∃ p : Nat, r = (p : Int) ∧ Pck la F p
theorem bi_skip {F : List Fl} {i : Nat} {b : Int} (h : BI F i b) (hw : (F.getD i (0, 0)).2 ≤ 0) : BI F (i + 1) b := by
  rcases h with ⟨rfl, h⟩ | ⟨p, hp, rfl, h1, h2⟩
  · refine .inl ⟨rfl, fun j hj => ?_⟩
    by_cases e : j = i
    · rw [e]; exact hw
    · exact h j (by omega)
  · refine .inr ⟨p, by omega, rfl, h1, fun j hj hwj => ?_⟩
    by_cases e : j = i
    · rw [e] at hwj; omega
    · exact h2 j (by omega) hwj
theorem ai_skip {any : Bool} {L : Int} {F : List Fl} {i : Nat} {a : Int} (h : AI any L F i a) (hw : (F.getD i (0, 0)).2 ≤ 0) : AI any L F (i + 1) a := by
  rcases h with ⟨rfl, h⟩ | ⟨p, hp, rfl, h0, h1, h3, h2⟩
  · refine .inl ⟨rfl, fun j hj hwj => ?_⟩
    by_cases e : j = i
    · rw [e] at hwj; omega
    · exact h j (by omega) hwj
  · refine .inr ⟨p, by omega, rfl, h0, h1, h3, fun j hj hwj => ?_⟩
    by_cases e : j = i
    · rw [e] at hwj; omega
    · exact h2 j (by omega) hwj
theorem bi_new {F : List Fl} {i : Nat} (h : BI F i (-1)) (hw : 0 < (F.getD i (0, 0)).2) : BI F (i + 1) (i : Int) := by
  rcases h with ⟨_, h⟩ | ⟨p, hp, e, _⟩
  · refine .inr ⟨i, by omega, rfl, hw, fun j hj hwj => ?_⟩
    by_cases e : j = i
    · rw [e]; exact Int.le_refl _
    · have := h j (by omega); omega
  · omega
theorem bi_less {F : List Fl} {i p : Nat} (h : BI F i (p : Int)) (hw : 0 < (F.getD i (0, 0)).2) (hl : (F.getD i (0, 0)).1 < (F.getD p (0, 0)).1) : BI F (i + 1) (i : Int) := by
  rcases h with ⟨e, _⟩ | ⟨q, hq, e, _, h2⟩
  · omega
  · obtain rfl : p = q := by omega
    refine .inr ⟨i, by omega, rfl, hw, fun j hj hwj => ?_⟩
    by_cases e : j = i
    · rw [e]; exact Int.le_refl _
    · have := h2 j (by omega) hwj; omega
theorem bi_more {F : List Fl} {i p : Nat} (h : BI F i (p : Int)) (hl : ¬ (F.getD i (0, 0)).1 < (F.getD p (0, 0)).1) : BI F (i + 1) (p : Int) := by
  rcases h with ⟨e, _⟩ | ⟨q, hq, e, h1, h2⟩
  · omega
  · obtain rfl : p = q := by omega
    refine .inr ⟨p, by omega, rfl, h1, fun j hj hwj => ?_⟩
    by_cases e : j = i
    · rw [e]; omega
    · exact h2 j (by omega) hwj
theorem ai_off {L : Int} {F : List Fl} {i : Nat} {a : Int} (h : AI false L F i a) : AI false L F (i + 1) a := by
  rcases h with ⟨rfl, h⟩ | ⟨p, hp, e, h0, _⟩
  · exact .inl ⟨rfl, fun j hj hwj q => by cases q⟩
  · cases h0
theorem ai_low {L : Int} {F : List Fl} {i : Nat} {a : Int} (h : AI true L F i a) (hl : ¬ L < (F.getD i (0, 0)).1) : AI true L F (i + 1) a := by
  rcases h with ⟨rfl, h⟩ | ⟨p, hp, rfl, h0, h1, h3, h2⟩
  · refine .inl ⟨rfl, fun j hj hwj q => ?_⟩
    by_cases e : j = i
    · rw [e]; omega
    · exact h j (by omega) hwj q
  · refine .inr ⟨p, by omega, rfl, h0, h1, h3, fun j hj hwj q => ?_⟩
    by_cases e : j = i
    · rw [e] at q; omega
    · exact h2 j (by omega) hwj q
theorem ai_new {L : Int} {F : List Fl} {i : Nat} (h : AI true L F i (-1)) (hw : 0 < (F.getD i (0, 0)).2) (hl : L < (F.getD i (0, 0)).1) : AI true L F (i + 1) (i : Int) := by
  rcases h with ⟨_, h⟩ | ⟨p, hp, e, _⟩
  · refine .inr ⟨i, by omega, rfl, rfl, hw, hl, fun j hj hwj q => ?_⟩
    by_cases e : j = i
    · rw [e]; exact Int.le_refl _
    · have := h j (by omega) hwj rfl; omega
  · omega
theorem ai_less {L : Int} {F : List Fl} {i p : Nat} (h : AI true L F i (p : Int)) (hw : 0 < (F.getD i (0, 0)).2) (hl : L < (F.getD i (0, 0)).1) (hx : (F.getD i (0, 0)).1 < (F.getD p (0, 0)).1) : AI true L F (i + 1) (i : Int) := by
  rcases h with ⟨e, _⟩ | ⟨q, hq, e, _, _, _, h2⟩
  · omega
  · obtain rfl : p = q := by omega
    refine .inr ⟨i, by omega, rfl, rfl, hw, hl, fun j hj hwj q => ?_⟩
    by_cases e : j = i
    · rw [e]; exact Int.le_refl _
    · have := h2 j (by omega) hwj q; omega
theorem ai_more {L : Int} {F : List Fl} {i p : Nat} (h : AI true L F i (p : Int)) (hx : ¬ (F.getD i (0, 0)).1 < (F.getD p (0, 0)).1) : AI true L F (i + 1) (p : Int) := by
  rcases h with ⟨e, _⟩ | ⟨q, hq, e, h0, h1, h3, h2⟩
  · omega
  · obtain rfl : p = q := by omega
    refine .inr ⟨p, by omega, rfl, rfl, h1, h3, fun j hj hwj q => ?_⟩
    by_cases e : j = i
    · rw [e]; omega
    · exact h2 j (by omega) hwj q
set_option maxRecDepth 100000 in
set_option maxHeartbeats 8000000 in
theorem pick_any (F : List Fl) (a : Option Addr) (c : Nat) (q cr L la : Int) (any : Bool) (w : World) (hf : Fls w a c F) (hl : F.length ≤ 20) (hs : LaS any L la) (hla : InR la) (hr : ∀ f ∈ F, InR f.1) :
    Calls Try.prog 18 #[.agg #[.int .i64 q, .int .i64 cr, .int .i64 L, .bool any], .slice a F.length c] w fun e w' => ∃ r, e = .returned (.int .i64 r) ∧ PickR la F r ∧ Below w.heap.size w w' := by
  have HE : Hid (∀ a b : Int, BI F F.length b → AI any L F F.length a → PickR la F (if 0 ≤ a then a else b)) := fun a b h1 h2 => pick_end hs hla hr h1 h2
  have BA : Below w.heap.size w (w.alloc (.cells #[.int .i64 q, .int .i64 cr, .int .i64 L, .bool any] 27)) := (Below.refl _ _).alloc (Nat.le_refl _) _
  have HF : Hid (∀ W, Below w.heap.size w W → Fls W a c F) := fun W b => hf.keep b
  have N0 := tblk_new w (.cells #[.int .i64 q, .int .i64 cr, .int .i64 L, .bool any] 27)
  have HN0 := hidE N0
  obtain ⟨n, hn⟩ : ∃ n, n = F.length := ⟨_, rfl⟩
  have HNN : Hid (F.length = n) := hn.symm
  rw [← hn] at hl ⊢
  have HB0 := hidE BA
  have HS0 : Hid (w.heap.size < (w.alloc (.cells #[.int .i64 q, .int .i64 cr, .int .i64 L, .bool any] 27)).heap.size) := by show _ < _; simp
  clear hn hf hs hla hr BA N0
  go_enter Try.func18, Try.ntmps18
  go_wp2_with fail
  generalize hW0 : (w.alloc (.cells #[.int .i64 q, .int .i64 cr, .int .i64 L, .bool any] 27)) = W0 at *
  clear hW0
  go_loopw [5, 6, 7] (fun v5 v6 vi wr => ∃ (k : Nat) (b a6 : Int), k ≤ n ∧ vi = .int .i64 k ∧ v5 = .int .i64 b ∧ v6 = .int .i64 a6 ∧ Hid (BI F k b) ∧ Hid (AI any L F k a6) ∧ Hid (Below W0.heap.size W0 wr)) (fun _ _ vi _ => n - (intOf vi).toNat)
  case atStart => exact ⟨0, -1, -1, Nat.zero_le _, rfl, rfl, rfl, .inl ⟨rfl, fun j hj => absurd hj (Nat.not_lt_zero _)⟩, .inl ⟨rfl, fun j hj => absurd hj (Nat.not_lt_zero _)⟩, Below.refl _ _⟩
  case round =>
    obtain ⟨k, b, a6, hk, rfl, rfl, rfl, HBI, HAI, HB⟩ := hrel
    have hBw := HB0.out.trans (HB.out.mono HB0.out.size)
    by_cases hlt : k < n
    · obtain ⟨g, off, rfl, hg, hc⟩ := (HF.out wr hBw).2.2.2 (by rw [HNN.out]; omega)
      have ck := (hc k (by rw [HNN.out]; exact hlt)).1
      have ck1 := (hc k (by rw [HNN.out]; exact hlt)).2
      have hN := (HB.out.block w.heap.size HS0.out).trans HN0.out
      have r2 : wr.cell? ⟨w.heap.size, 2, none⟩ = some (.int .i64 L) := tblk_cell hN rfl
      have r3 : wr.cell? ⟨w.heap.size, 3, none⟩ = some (.bool any) := tblk_cell hN rfl
      have m1 : (0 : Int) ≤ k := by omega
      have m2 : (k : Int) < n := by omega
      clear hN
      by_cases hw0 : (F.getD k (0, 0)).2 ≤ 0
      · have HB1 := hidE (bi_skip HBI.out hw0)
        have HA1 := hidE (ai_skip HAI.out hw0)
        have dw : decide ((F.getD k (0, 0)).2 ≤ 0) = true := decide_eq_true hw0
        clear hc
        generalize (F.getD k (0, 0)).2 = y at *
        generalize (F.getD k (0, 0)).1 = x at *
        go_wp2
        go_roundw
        case rel => exact ⟨k + 1, b, a6, by omega, by go_num, rfl, rfl, HB1, HA1, HB⟩
        case measure => simp [intOf]; omega
      · have hw1 : 0 < (F.getD k (0, 0)).2 := by omega
        have dw : decide ((F.getD k (0, 0)).2 ≤ 0) = false := decide_eq_false hw0
        rcases HBI.out with ⟨rfl, _⟩ | ⟨pb, hpb, rfl, _⟩
        · clear hBw
          have HB1 := hidE (bi_new HBI.out hw1)
          cases any with
          | false =>
            have HA1 := hidE (ai_off HAI.out)
            clear hc HBI HAI
            generalize (F.getD k (0, 0)).2 = y at *
            generalize (F.getD k (0, 0)).1 = x at *
            go_wp2_with fail
            go_quiet (fail)
            go_wp2_with fail
            go_quiet (fail)
            go_wp2
            go_roundw
            case rel => exact ⟨k + 1, (k : Int), a6, by omega, by go_num, rfl, rfl, HB1, HA1, below_drewN HB.out _⟩
            case measure => simp [intOf]; omega
          | true =>
            by_cases hL : L < (F.getD k (0, 0)).1
            · have dL : decide (L < (F.getD k (0, 0)).1) = true := decide_eq_true hL
              rcases HAI.out with ⟨rfl, _⟩ | ⟨pa, hpa, rfl, _⟩
              · clear hk
                have HA1 := hidE (ai_new HAI.out hw1 hL)
                clear hc HBI HAI
                generalize (F.getD k (0, 0)).2 = y at *
                generalize (F.getD k (0, 0)).1 = x at *
                go_wp2_with fail
                go_quiet (fail)
                go_wp2_with fail
                go_quiet (fail)
                go_wp2
                go_roundw
                case rel => exact ⟨k + 1, (k : Int), (k : Int), hlt, by go_num, rfl, rfl, HB1, HA1, below_drewN HB.out _⟩
                case measure => simp [intOf]; omega
              · have ca := (hc pa (by rw [HNN.out]; omega)).1
                have a1 : (0 : Int) ≤ pa := by omega
                have a2 : (pa : Int) < n := by omega
                have a3 : ¬ (pa : Int) < 0 := by omega
                by_cases hal : (F.getD k (0, 0)).1 < (F.getD pa (0, 0)).1
                · have da : decide ((F.getD k (0, 0)).1 < (F.getD pa (0, 0)).1) = true := decide_eq_true hal
                  have HA1 := hidE (ai_less HAI.out hw1 hL hal)
                  clear hc HBI HAI
                  generalize (F.getD k (0, 0)).2 = y at *
                  generalize (F.getD k (0, 0)).1 = x at *
                  generalize (F.getD pa (0, 0)).1 = xa at *
                  go_wp2_with fail
                  go_quiet (fail)
                  go_wp2_with fail
                  go_quiet (fail)
                  go_wp2
                  go_roundw
                  case rel => exact ⟨k + 1, (k : Int), (k : Int), by omega, by go_num, rfl, rfl, HB1, HA1, below_drewN HB.out _⟩
                  case measure => simp [intOf]; omega
                · have da : decide ((F.getD k (0, 0)).1 < (F.getD pa (0, 0)).1) = false := decide_eq_false hal
                  have HA1 := hidE (ai_more HAI.out hal)
                  clear hc HBI HAI
                  generalize (F.getD k (0, 0)).2 = y at *
                  generalize (F.getD k (0, 0)).1 = x at *
                  generalize (F.getD pa (0, 0)).1 = xa at *
                  go_wp2_with fail
                  go_quiet (fail)
                  go_wp2_with fail
                  go_quiet (fail)
                  go_wp2
                  go_roundw
                  case rel => exact ⟨k + 1, (k : Int), (pa : Int), by omega, by go_num, rfl, rfl, HB1, HA1, below_drewN HB.out _⟩
                  case measure => simp [intOf]; omega
            · have dL : decide (L < (F.getD k (0, 0)).1) = false := decide_eq_false hL
              have HA1 := hidE (ai_low HAI.out hL)
              clear hc HBI HAI
              generalize (F.getD k (0, 0)).2 = y at *
              generalize (F.getD k (0, 0)).1 = x at *
              go_wp2_with fail
              go_quiet (fail)
              go_wp2_with fail
              go_quiet (fail)
              go_wp2
              go_roundw
              case rel => exact ⟨k + 1, (k : Int), a6, by omega, by go_num, rfl, rfl, HB1, HA1, below_drewN HB.out _⟩
              case measure => simp [intOf]; omega
        · have cb := (hc pb (by rw [HNN.out]; omega)).1
          have b1 : (0 : Int) ≤ pb := by omega
          have b2 : (pb : Int) < n := by omega
          have b3 : ¬ (pb : Int) < 0 := by omega
          by_cases hbl : (F.getD k (0, 0)).1 < (F.getD pb (0, 0)).1
          · have db : decide ((F.getD k (0, 0)).1 < (F.getD pb (0, 0)).1) = true := decide_eq_true hbl
            have HB1 := hidE (bi_less HBI.out hw1 hbl)
            cases any with
            | false =>
              have HA1 := hidE (ai_off HAI.out)
              clear hc HBI HAI
              generalize (F.getD k (0, 0)).2 = y at *
              generalize (F.getD k (0, 0)).1 = x at *
              generalize (F.getD pb (0, 0)).1 = xb at *
              go_wp2_with fail
              go_quiet (fail)
              go_wp2_with fail
              go_quiet (fail)
              go_wp2
              go_roundw
              case rel => exact ⟨k + 1, (k : Int), a6, by omega, by go_num, rfl, rfl, HB1, HA1, below_drewN HB.out _⟩
              case measure => simp [intOf]; omega
            | true =>
              by_cases hL : L < (F.getD k (0, 0)).1
              · have dL : decide (L < (F.getD k (0, 0)).1) = true := decide_eq_true hL
                rcases HAI.out with ⟨rfl, _⟩ | ⟨pa, hpa, rfl, _⟩
                · clear hk
                  have HA1 := hidE (ai_new HAI.out hw1 hL)
                  clear hc HBI HAI
                  generalize (F.getD k (0, 0)).2 = y at *
                  generalize (F.getD k (0, 0)).1 = x at *
                  generalize (F.getD pb (0, 0)).1 = xb at *
                  go_wp2_with fail
                  go_quiet (fail)
                  go_wp2_with fail
                  go_quiet (fail)
                  go_wp2
                  go_roundw
                  case rel => exact ⟨k + 1, (k : Int), (k : Int), hlt, by go_num, rfl, rfl, HB1, HA1, below_drewN HB.out _⟩
                  case measure => simp [intOf]; omega
                · have ca := (hc pa (by rw [HNN.out]; omega)).1
                  have a1 : (0 : Int) ≤ pa := by omega
                  have a2 : (pa : Int) < n := by omega
                  have a3 : ¬ (pa : Int) < 0 := by omega
                  by_cases hal : (F.getD k (0, 0)).1 < (F.getD pa (0, 0)).1
                  · have da : decide ((F.getD k (0, 0)).1 < (F.getD pa (0, 0)).1) = true := decide_eq_true hal
                    have HA1 := hidE (ai_less HAI.out hw1 hL hal)
                    clear hc HBI HAI
                    generalize (F.getD k (0, 0)).2 = y at *
                    generalize (F.getD k (0, 0)).1 = x at *
                    generalize (F.getD pb (0, 0)).1 = xb at *
                    generalize (F.getD pa (0, 0)).1 = xa at *
                    go_wp2_with fail
                    go_quiet (fail)
                    go_wp2_with fail
                    go_quiet (fail)
                    go_wp2
                    go_roundw
                    case rel => exact ⟨k + 1, (k : Int), (k : Int), by omega, by go_num, rfl, rfl, HB1, HA1, below_drewN HB.out _⟩
                    case measure => simp [intOf]; omega
                  · have da : decide ((F.getD k (0, 0)).1 < (F.getD pa (0, 0)).1) = false := decide_eq_false hal
                    have HA1 := hidE (ai_more HAI.out hal)
                    clear hc HBI HAI
                    generalize (F.getD k (0, 0)).2 = y at *
                    generalize (F.getD k (0, 0)).1 = x at *
                    generalize (F.getD pb (0, 0)).1 = xb at *
                    generalize (F.getD pa (0, 0)).1 = xa at *
                    go_wp2_with fail
                    go_quiet (fail)
                    go_wp2_with fail
                    go_quiet (fail)
                    go_wp2
                    go_roundw
                    case rel => exact ⟨k + 1, (k : Int), (pa : Int), by omega, by go_num, rfl, rfl, HB1, HA1, below_drewN HB.out _⟩
                    case measure => simp [intOf]; omega
              · have dL : decide (L < (F.getD k (0, 0)).1) = false := decide_eq_false hL
                have HA1 := hidE (ai_low HAI.out hL)
                clear hc HBI HAI
                generalize (F.getD k (0, 0)).2 = y at *
                generalize (F.getD k (0, 0)).1 = x at *
                generalize (F.getD pb (0, 0)).1 = xb at *
                go_wp2_with fail
                go_quiet (fail)
                go_wp2_with fail
                go_quiet (fail)
                go_wp2
                go_roundw
                case rel => exact ⟨k + 1, (k : Int), a6, by omega, by go_num, rfl, rfl, HB1, HA1, below_drewN HB.out _⟩
                case measure => simp [intOf]; omega
          · have db : decide ((F.getD k (0, 0)).1 < (F.getD pb (0, 0)).1) = false := decide_eq_false hbl
            have HB1 := hidE (bi_more HBI.out hbl)
            cases any with
            | false =>
              have HA1 := hidE (ai_off HAI.out)
              clear hc HBI HAI
              generalize (F.getD k (0, 0)).2 = y at *
              generalize (F.getD k (0, 0)).1 = x at *
              generalize (F.getD pb (0, 0)).1 = xb at *
              go_wp2_with fail
              go_quiet (fail)
              go_wp2_with fail
              go_quiet (fail)
              go_wp2
              go_roundw
              case rel => exact ⟨k + 1, (pb : Int), a6, by omega, by go_num, rfl, rfl, HB1, HA1, below_drewN HB.out _⟩
              case measure => simp [intOf]; omega
            | true =>
              by_cases hL : L < (F.getD k (0, 0)).1
              · have dL : decide (L < (F.getD k (0, 0)).1) = true := decide_eq_true hL
                rcases HAI.out with ⟨rfl, _⟩ | ⟨pa, hpa, rfl, _⟩
                · clear hk
                  have HA1 := hidE (ai_new HAI.out hw1 hL)
                  clear hc HBI HAI
                  generalize (F.getD k (0, 0)).2 = y at *
                  generalize (F.getD k (0, 0)).1 = x at *
                  generalize (F.getD pb (0, 0)).1 = xb at *
                  go_wp2_with fail
                  go_quiet (fail)
                  go_wp2_with fail
                  go_quiet (fail)
                  go_wp2
                  go_roundw
                  case rel => exact ⟨k + 1, (pb : Int), (k : Int), hlt, by go_num, rfl, rfl, HB1, HA1, below_drewN HB.out _⟩
                  case measure => simp [intOf]; omega
                · have ca := (hc pa (by rw [HNN.out]; omega)).1
                  have a1 : (0 : Int) ≤ pa := by omega
                  have a2 : (pa : Int) < n := by omega
                  have a3 : ¬ (pa : Int) < 0 := by omega
                  by_cases hal : (F.getD k (0, 0)).1 < (F.getD pa (0, 0)).1
                  · have da : decide ((F.getD k (0, 0)).1 < (F.getD pa (0, 0)).1) = true := decide_eq_true hal
                    have HA1 := hidE (ai_less HAI.out hw1 hL hal)
                    clear hc HBI HAI
                    generalize (F.getD k (0, 0)).2 = y at *
                    generalize (F.getD k (0, 0)).1 = x at *
                    generalize (F.getD pb (0, 0)).1 = xb at *
                    generalize (F.getD pa (0, 0)).1 = xa at *
                    go_wp2_with fail
                    go_quiet (fail)
                    go_wp2_with fail
                    go_quiet (fail)
                    go_wp2
                    go_roundw
                    case rel => exact ⟨k + 1, (pb : Int), (k : Int), by omega, by go_num, rfl, rfl, HB1, HA1, below_drewN HB.out _⟩
                    case measure => simp [intOf]; omega
                  · have da : decide ((F.getD k (0, 0)).1 < (F.getD pa (0, 0)).1) = false := decide_eq_false hal
                    have HA1 := hidE (ai_more HAI.out hal)
                    clear hc HBI HAI
                    generalize (F.getD k (0, 0)).2 = y at *
                    generalize (F.getD k (0, 0)).1 = x at *
                    generalize (F.getD pb (0, 0)).1 = xb at *
                    generalize (F.getD pa (0, 0)).1 = xa at *
                    go_wp2_with fail
                    go_quiet (fail)
                    go_wp2_with fail
                    go_quiet (fail)
                    go_wp2
                    go_roundw
                    case rel => exact ⟨k + 1, (pb : Int), (pa : Int), by omega, by go_num, rfl, rfl, HB1, HA1, below_drewN HB.out _⟩
                    case measure => simp [intOf]; omega
              · have dL : decide (L < (F.getD k (0, 0)).1) = false := decide_eq_false hL
                have HA1 := hidE (ai_low HAI.out hL)
                clear hc HBI HAI
                generalize (F.getD k (0, 0)).2 = y at *
                generalize (F.getD k (0, 0)).1 = x at *
                generalize (F.getD pb (0, 0)).1 = xb at *
                go_wp2_with fail
                go_quiet (fail)
                go_wp2_with fail
                go_quiet (fail)
                go_wp2
                go_roundw
                case rel => exact ⟨k + 1, (pb : Int), a6, by omega, by go_num, rfl, rfl, HB1, HA1, below_drewN HB.out _⟩
                case measure => simp [intOf]; omega
    · obtain rfl : k = n := by omega
      have hE := HE.out a6 b (by rw [HNN.out]; exact HBI.out) (by rw [HNN.out]; exact HAI.out)
      by_cases h0 : 0 ≤ a6
      · rw [if_pos h0] at hE
        have HEE := hidE hE
        have HBW := hidE hBw
        clear hE hBw HE HBI HAI
        go_wp2
        go_ret
        exact ⟨_, rfl, HEE.out, HBW.out⟩
      · rw [if_neg h0] at hE
        have HEE := hidE hE
        have HBW := hidE hBw
        clear hE hBw HE HBI HAI
        go_wp2
        go_ret
        exact ⟨_, rfl, HEE.out, HBW.out⟩
end Go.Proofs.Ytejjljhmlgjlhaa
