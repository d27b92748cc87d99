/- Whose turn it is (inTurn). -/
import Derived.Test.YtnfpbkllpkbdiaaRbH
import Derived.Laws.EntriesVeiled
namespace Go.Proofs.Ytnfpbkllpkbdiaa
open Go.RowKit
set_option linter.unusedVariables false

/-- The flows that want something, the next one first. -/
def WaitP (la : Int) (fs W : List Fl) : Prop := ∃ s, Stab fs s ∧ SrtTo la s s.length ∧ W = (cpt s s.length).filter wants
theorem WaitP.len {la : Int} {fs W : List Fl} (h : WaitP la fs W) : W.length ≤ fs.length := by
  obtain ⟨s, h1, _, rfl⟩ := h
  exact Nat.le_trans (List.length_filter_le _ _) (Nat.le_trans (cpt_len _ _) (by rw [h1.1]; exact Nat.le_refl _))
/-- A queue: if there is something in it, it lies in a block from B on. -/
def Que (B : Nat) (w : World) (v : Value) (l : List Fl) : Prop := ∃ a c, v = .slice a l.length c ∧ (0 < l.length → ∃ g off, a = some ⟨g, off, none⟩ ∧ B ≤ g ∧ FO w g off c l ∧ c ≤ maxLen)
set_option maxHeartbeats 1000000 in
theorem rbcompact_none (a : Option Addr) (c : Nat) (fv : Value) (w : World) : Calls Try.prog 15 #[.slice a 0 c, fv] w fun e w' => e = .returned (.slice a 0 c) ∧ w' = w := by
  go_enter Try.func15, Try.ntmps15
  go_wp2
  go_ret
  exact ⟨rfl, rfl⟩
set_option maxHeartbeats 1000000 in
theorem rbindex_none (a : Option Addr) (c : Nat) (fv : Value) (w : World) : Calls Try.prog 21 #[.slice a 0 c, fv] w fun e w' => e = .returned (.int .i64 (-1)) ∧ w' = w := by
  go_enter Try.func21, Try.ntmps21
  go_wp2_with fail
  refine wp_loop_rounds 1 ?_
  rw [rounds_succ]
  go_wp2
  go_ret
  exact ⟨rfl, rfl⟩
set_option maxHeartbeats 1000000 in
theorem rbdelete_none (a : Option Addr) (c : Nat) (fv : Value) (w : World) : Calls Try.prog 17 #[.slice a 0 c, fv] w fun e w' => e = .returned (.slice a 0 c) ∧ w' = w := by
  have HI := hidE (rbindex_none a c fv w)
  go_enter Try.func17, Try.ntmps17
  go_wp2_with fail
  refine HI.out.mono ?_
  rintro e w' ⟨rfl, rfl⟩
  go_wp2
  go_ret
  exact ⟨rfl, rfl⟩
/-- The two cells that the closures read. -/
theorem env_new {w : World} {rb : Nat} {q cr la : Int} (h : IsR w rb q cr la) (W : World) (hb : Below w.heap.size w W) (h1 : W.heap[w.heap.size]? = some (.cells #[.pointer (some ⟨rb, 0, none⟩)] 24)) (h2 : W.heap[w.heap.size + 1]? = some (.cells #[.func (.func 10) #[] #[.pointer (some ⟨w.heap.size, 0, none⟩)]] 43)) : Env (w.heap.size + 2) W (w.heap.size + 1) w.heap.size rb q cr la := by
  have := h.lt
  exact ⟨tblk_cell h2 rfl, by omega, tblk_cell h1 rfl, by omega, h.below hb h.lt, by omega, (Array.getElem?_eq_some_iff.1 h2).1⟩
set_option maxRecDepth 100000 in
set_option maxHeartbeats 4000000 in
theorem rbturn_any (fs : List Fl) (a : Option Addr) (c rb : Nat) (q cr la : Int) (w : World) (hr : IsR w rb q cr la) (hf : Fls w a c fs) (hl : fs.length ≤ 20) :
    Calls Try.prog 9 #[.pointer (some ⟨rb, 0, none⟩), .slice a fs.length c] w fun e w' => ∃ v W, e = .returned v ∧ WaitP la fs W ∧ Que w.heap.size w' v W ∧ Below w.heap.size w w' := by
  have B0 : Below w.heap.size w ((w.alloc (.cells #[.pointer (some ⟨rb, 0, none⟩)] 24)).alloc (.cells #[.func (.func 10) #[] #[.pointer (some ⟨w.heap.size, 0, none⟩)]] 43)) := ((Below.refl _ _).alloc (Nat.le_refl _) _).alloc (by simp) _
  have N1 : ((w.alloc (.cells #[.pointer (some ⟨rb, 0, none⟩)] 24)).alloc (.cells #[.func (.func 10) #[] #[.pointer (some ⟨w.heap.size, 0, none⟩)]] 43)).heap[w.heap.size]? = some (.cells #[.pointer (some ⟨rb, 0, none⟩)] 24) := (Below.heap_alloc _ _ _ (by simp)).trans (tblk_new _ _)
  have N2 := bblk2 w (.cells #[.pointer (some ⟨rb, 0, none⟩)] 24) (.cells #[.func (.func 10) #[] #[.pointer (some ⟨w.heap.size, 0, none⟩)]] 43)
  have E0 := env_new hr _ B0 N1 N2
  have HC := hidE (rbclone_any fs a c _ (hf.keep B0) (by omega))
  have hs0 : ((w.alloc (.cells #[.pointer (some ⟨rb, 0, none⟩)] 24)).alloc (.cells #[.func (.func 10) #[] #[.pointer (some ⟨w.heap.size, 0, none⟩)]] 43)).heap.size = w.heap.size + 2 := by simp
  have HE0 : Hid (Env (w.heap.size + 2) ((w.alloc (.cells #[.pointer (some ⟨rb, 0, none⟩)] 24)).alloc (.cells #[.func (.func 10) #[] #[.pointer (some ⟨w.heap.size, 0, none⟩)]] 43)) (w.heap.size + 1) w.heap.size rb q cr la) := E0
  have HB0 : Hid (Below w.heap.size w ((w.alloc (.cells #[.pointer (some ⟨rb, 0, none⟩)] 24)).alloc (.cells #[.func (.func 10) #[] #[.pointer (some ⟨w.heap.size, 0, none⟩)]] 43))) := B0
  have HS0 : Hid (((w.alloc (.cells #[.pointer (some ⟨rb, 0, none⟩)] 24)).alloc (.cells #[.func (.func 10) #[] #[.pointer (some ⟨w.heap.size, 0, none⟩)]] 43)).heap.size = w.heap.size + 2) := hs0
  obtain ⟨n, hn⟩ : ∃ n, n = fs.length := ⟨_, rfl⟩
  have HN : Hid (fs.length = n) := hn.symm
  rw [← hn] at HC hl ⊢
  clear hn B0 N1 N2 E0 hs0 hf hr
  go_enter Try.func9, Try.ntmps9
  go_wp2_with fail
  refine HC.out.mono ?_
  generalize ((w.alloc (.cells #[.pointer (some ⟨rb, 0, none⟩)] 24)).alloc (.cells #[.func (.func 10) #[] #[.pointer (some ⟨w.heap.size, 0, none⟩)]] 43)) = W0 at *
  rintro e w1 ⟨a', c', rfl, B1, hF⟩
  clear HC
  have HB1 : Hid (Below w.heap.size w w1) := HB0.out.trans (B1.mono HB0.out.size)
  rcases Nat.eq_zero_or_pos n with h0 | hp
  · subst h0
    have HZ1 : Hid (∀ (fv : Value) (W : World), Calls Try.prog 12 #[.slice a' 0 c', fv] W fun e w' => e = .returned (.tuple #[]) ∧ w' = W) := fun fv W => rbsort_none a' c' fv W
    have HZ2 : Hid (∀ (fv : Value) (W : World), Calls Try.prog 15 #[.slice a' 0 c', fv] W fun e w' => e = .returned (.slice a' 0 c') ∧ w' = W) := fun fv W => rbcompact_none a' c' fv W
    have HZ3 : Hid (∀ (fv : Value) (W : World), Calls Try.prog 17 #[.slice a' 0 c', fv] W fun e w' => e = .returned (.slice a' 0 c') ∧ w' = W) := fun fv W => rbdelete_none a' c' fv W
    clear hF B1
    go_wp2_with fail
    refine (HZ1.out _ _).mono ?_
    rintro e w2 ⟨rfl, rfl⟩
    go_wp2_with fail
    refine (HZ2.out _ _).mono ?_
    rintro e w2 ⟨rfl, rfl⟩
    go_wp2_with fail
    refine (HZ3.out _ _).mono ?_
    rintro e w2 ⟨rfl, rfl⟩
    go_wp2
    go_ret
    have e : fs = [] := List.eq_nil_of_length_eq_zero HN.out
    exact ⟨_, [], rfl, by rw [e]; exact ⟨[], Stab.refl _, (fun p q h1 h2 => absurd h2 (Nat.not_lt_zero _)), rfl⟩, ⟨a', c', rfl, fun q => absurd q (Nat.lt_irrefl _)⟩, HB1.out⟩
  · obtain ⟨g, rfl, hg, F1, hc'⟩ := hF hp
    have hgs : w.heap.size + 2 ≤ g := by rw [← HS0.out]; exact hg
    have HE1 : Hid (Env (w.heap.size + 2) w1 (w.heap.size + 1) w.heap.size rb q cr la) := HE0.out.below (B1.mono (by rw [HS0.out]; exact Nat.le_refl _))
    have hcm : c' ≤ 9223372036854775807 := by unfold maxLen at hc'; omega
    have HSo := hidE (rbsort_any fs (w.heap.size + 2) g 0 c' (w.heap.size + 1) w.heap.size rb q cr la w1 (by rw [HN.out]; exact hl) F1 hgs HE1.out hcm)
    rw [HN.out] at HSo
    clear hF B1 F1
    go_wp2_with fail
    refine HSo.out.mono ?_
    rintro e w2 ⟨rfl, s, F2, hst, hsr, B2⟩
    clear HSo
    have hsl : s.length = n := hst.1.trans HN.out
    have HB2 : Hid (Below w.heap.size w w2) := HB1.out.trans (B2.mono (by omega))
    have HS2 : Hid (w.heap.size + 2 ≤ w2.heap.size) := Nat.le_trans HE1.out.s B2.size
    have HCo := hidE (rbcompact_any s (w.heap.size + 2) g 0 c' w2 (by omega) F2 hgs hcm HS2.out)
    rw [hsl] at HCo
    have HST : Hid (Stab fs s ∧ SrtTo la s s.length ∧ s.length = n) := ⟨hst, hsr, hsl⟩
    clear F2 hst hsr hsl B2 HE1
    go_wp2_with fail
    refine HCo.out.mono ?_
    rintro e w3 ⟨rfl, F3, B3⟩
    clear HCo
    have HB3 : Hid (Below w.heap.size w w3) := HB2.out.trans (B3.mono (by omega))
    have HDe := hidE (rbdelete_any (cpt s n) (w.heap.size + 2) g 0 c' w3 (by have := cpt_len s n; omega) F3 hgs hcm (Nat.le_trans HS2.out B3.size))
    clear F3 B3
    go_wp2_with fail
    refine HDe.out.mono ?_
    rintro e w4 ⟨rfl, F4, B4⟩
    go_wp2
    go_ret
    exact ⟨_, (cpt s n).filter wants, rfl, ⟨s, HST.out.1, HST.out.2.1, by rw [HST.out.2.2]⟩, ⟨_, c', rfl, fun _ => ⟨g, 0, rfl, by omega, F4, hc'⟩⟩, HB3.out.trans (B4.mono (by omega))⟩
end Go.Proofs.Ytnfpbkllpkbdiaa
