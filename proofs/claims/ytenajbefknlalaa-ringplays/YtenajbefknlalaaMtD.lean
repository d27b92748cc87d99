/- The contracts of the reference meter's functions, and of the meter's looks where nothing turns. -/
import Derived.Test.YtenajbefknlalaaMtC
namespace Go.Proofs.Ytenajbefknlalaa
open Go.RowKit
set_option linter.unusedVariables false

theorem IsM.drewN {w : World} {b : Nat} {m h p : Int} (x : IsM w b m h p) (n : Nat) : IsM (w.drewN n) b m h p := by
  unfold IsM at *; simpa [World.drewN] using x

set_option maxHeartbeats 400000 in
theorem held_q (b : Nat) (m h p : Int) (w : World) (hm : IsM w b m h p) :
    Calls Try.prog 15 #[.pointer (some ⟨b, 0, none⟩)] w fun e w' => e = .returned (.int .i64 h) ∧ w' = w := by
  have hc := hm.c1
  go_enter Try.func15, Try.ntmps15
  go_wp2_with (go_at_call 28; refine (load_any b 1 h _ hc).mono ?_; rintro e w' ⟨rfl, rfl⟩)
  go_ret
  exact ⟨rfl, rfl⟩

set_option maxHeartbeats 400000 in
theorem peak_q (b : Nat) (m h p q : Int) (w : World) (hm : IsM w b m h p) (g : (if h ≤ p then p else h) = q) :
    Calls Try.prog 16 #[.pointer (some ⟨b, 0, none⟩)] w fun e w' => e = .returned (.int .i64 q) ∧ w' = w := by
  have hc := hm.c1
  have hd := hm.c2
  have G : Hid ((if h ≤ p then p else h) = q) := g
  clear g
  rcases Int.lt_or_le h p with c | c
  · have f : q = p := by rw [← G.out, if_pos (by omega)]
    subst f
    clear G
    go_enter Try.func16, Try.ntmps16
    go_wp2_with fail
    refine (load_any b 1 h _ hc).mono ?_
    rintro e w' ⟨rfl, rfl⟩
    go_wp2_with fail
    refine (load_any b 2 q _ hd).mono ?_
    rintro e w' ⟨rfl, rfl⟩
    go_wp2
    go_ret
    exact ⟨rfl, rfl⟩
  · have f : q = h := by rw [← G.out]; split <;> omega
    subst f
    clear G
    go_enter Try.func16, Try.ntmps16
    go_wp2_with fail
    refine (load_any b 1 q _ hc).mono ?_
    rintro e w' ⟨rfl, rfl⟩
    go_wp2_with fail
    refine (load_any b 2 p _ hd).mono ?_
    rintro e w' ⟨rfl, rfl⟩
    go_wp2
    go_ret
    exact ⟨rfl, rfl⟩

/-- Between. -/
def btw (n lo hi : Int) : Int := if n < lo then lo else if n > hi then hi else n
set_option maxHeartbeats 400000 in
theorem between_any (n lo hi : Int) (w : World) :
    Calls Try.prog 24 #[.int .i64 n, .int .i64 lo, .int .i64 hi] w fun e w' => e = .returned (.int .i64 (btw n lo hi)) ∧ w' = w := by
  by_cases c : n < lo
  · have f : btw n lo hi = lo := by unfold btw; rw [if_pos c]
    rw [f]; clear f
    go_enter Try.func24, Try.ntmps24
    go_wp2
    go_ret
    exact ⟨rfl, rfl⟩
  · by_cases d : n > hi
    · have f : btw n lo hi = hi := by unfold btw; rw [if_neg c, if_pos d]
      rw [f]; clear f
      go_enter Try.func24, Try.ntmps24
      go_wp2
      go_ret
      exact ⟨rfl, rfl⟩
    · have f : btw n lo hi = n := by unfold btw; rw [if_neg c, if_neg d]
      rw [f]; clear f
      go_enter Try.func24, Try.ntmps24
      go_wp2
      go_ret
      exact ⟨rfl, rfl⟩
theorem btw_mst (a : Int) : btw a 0 1099511627776 = mst a := by unfold btw mst; split <;> (try split) <;> omega
theorem btw_gv {h n : Int} (c : 0 ≤ h) : btw n 0 h = gvL h n := by unfold btw gvL; split <;> split <;> (try split) <;> (try split) <;> omega

set_option maxHeartbeats 400000 in
theorem rnew_any (a : Int) (w : World) :
    Calls Try.prog 18 #[.int .i64 a] w fun e w' => e = .returned (.agg #[.int .i64 0, .int .i64 0, .int .i64 (mst a)]) ∧ Below w.heap.size w w' := by
  have E : Hid (btw a 0 1099511627776 = mst a) := btw_mst a
  go_enter Try.func18, Try.ntmps18
  go_wp2_with fail
  refine (between_any _ _ _ _).mono ?_
  rw [E.out]
  rintro e w' ⟨rfl, rfl⟩
  go_wp2
  refine bodyPost_ret (v := .agg #[.int .i64 0, .int .i64 0, .int .i64 (mst a)]) (by simp [results, Try.results18, go_sem]) rfl ⟨rfl, ?_⟩
  exact (Below.refl _ _).alloc (Nat.le_refl _) _

/-- The reference's peak behind a Take. -/
def rpk (m h q n : Int) : Int := if 0 ≤ n ∧ n ≤ m - h then (if q < h + n then h + n else q) else q
set_option maxHeartbeats 1000000 in
theorem rtake_any (m h q n : Int) (w : World) (h0 : 0 ≤ h) (h1 : h ≤ m) (h2 : m ≤ 1099511627776) :
    Calls Try.prog 19 #[.agg #[.int .i64 h, .int .i64 q, .int .i64 m], .int .i64 n] w fun e w' =>
      e = .returned (.tuple #[.agg #[.int .i64 (tkH m h n), .int .i64 (rpk m h q n), .int .i64 m], .bool (tkB m h n)]) ∧ Below w.heap.size w w' := by
  rcases Int.lt_or_le n 0 with c | c
  · obtain ⟨e1, e2⟩ := tk_no (m := m) (h := h) (Or.inl c)
    have e3 : rpk m h q n = q := by unfold rpk; rw [if_neg (by omega)]
    rw [e1, e2, e3]; clear e1 e2 e3
    go_enter Try.func19, Try.ntmps19
    go_wp2
    refine bodyPost_ret (v := .tuple #[.agg #[.int .i64 h, .int .i64 q, .int .i64 m], .bool false]) (by simp [results, Try.results19, go_sem]) rfl ⟨rfl, ?_⟩
    exact ((Below.refl _ _).alloc (Nat.le_refl _) _).alloc (by simp) _
  · rcases Int.lt_or_le (m - h) n with d | d
    · obtain ⟨e1, e2⟩ := tk_no (m := m) (h := h) (Or.inr d)
      have e3 : rpk m h q n = q := by unfold rpk; rw [if_neg (by omega)]
      rw [e1, e2, e3]; clear e1 e2 e3
      go_enter Try.func19, Try.ntmps19
      go_wp2
      refine bodyPost_ret (v := .tuple #[.agg #[.int .i64 h, .int .i64 q, .int .i64 m], .bool false]) (by simp [results, Try.results19, go_sem]) rfl ⟨rfl, ?_⟩
      exact ((Below.refl _ _).alloc (Nat.le_refl _) _).alloc (by simp) _
    · obtain ⟨e1, e2⟩ := tk_yes c d
      rcases Int.lt_or_le q (h + n) with f | f
      · have e3 : rpk m h q n = h + n := by unfold rpk; rw [if_pos ⟨c, d⟩, if_pos f]
        rw [e1, e2, e3]; clear e1 e2 e3
        go_enter Try.func19, Try.ntmps19
        go_wp2
        refine bodyPost_ret (v := .tuple #[.agg #[.int .i64 (h + n), .int .i64 (h + n), .int .i64 m], .bool true]) (by simp [results, Try.results19, go_sem]) rfl ⟨rfl, ?_⟩
        exact ((Below.refl _ _).alloc (Nat.le_refl _) _).alloc (by simp) _
      · have e3 : rpk m h q n = q := by unfold rpk; rw [if_pos ⟨c, d⟩, if_neg (by omega)]
        rw [e1, e2, e3]; clear e1 e2 e3
        go_enter Try.func19, Try.ntmps19
        go_wp2
        refine bodyPost_ret (v := .tuple #[.agg #[.int .i64 (h + n), .int .i64 q, .int .i64 m], .bool true]) (by simp [results, Try.results19, go_sem]) rfl ⟨rfl, ?_⟩
        exact ((Below.refl _ _).alloc (Nat.le_refl _) _).alloc (by simp) _

set_option maxHeartbeats 1000000 in
theorem rgive_any (m h q n : Int) (w : World) (h0 : 0 ≤ h) (h1 : h ≤ m) (h2 : m ≤ 1099511627776) (g0 : 0 ≤ gvL h n) (g1 : gvL h n ≤ h) :
    Calls Try.prog 25 #[.agg #[.int .i64 h, .int .i64 q, .int .i64 m], .int .i64 n] w fun e w' =>
      e = .returned (.tuple #[.agg #[.int .i64 (h - gvL h n), .int .i64 q, .int .i64 m], .int .i64 (gvL h n)]) ∧ Below w.heap.size w w' := by
  have E : Hid (btw n 0 h = gvL h n) := btw_gv h0
  generalize gvL h n = g at *
  go_enter Try.func25, Try.ntmps25
  go_wp2_with fail
  refine (between_any _ _ _ _).mono ?_
  rw [E.out]
  rintro e w' ⟨rfl, rfl⟩
  go_wp2
  refine bodyPost_ret (v := .tuple #[.agg #[.int .i64 (h - g), .int .i64 q, .int .i64 m], .int .i64 g]) (by simp [results, Try.results25, go_sem]) rfl ⟨rfl, ?_⟩
  exact ((Below.refl _ _).alloc (Nat.le_refl _) _).alloc (by simp) _
end Go.Proofs.Ytenajbefknlalaa
