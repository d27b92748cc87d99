/- Pool: move, Joined. -/
import Derived.Test.YtlaigjapnmgjeaaPoD
namespace Go.Proofs.Ytlaigjapnmgjeaa
open Go.RowKit
set_option linter.unusedVariables false

set_option maxRecDepth 100000 in
set_option maxHeartbeats 1000000 in
theorem plmove_yes (h fr to : Int) (x1 : KS) (pb mk n N : Nat) (most last : Int) (q : HF) (rs : List Int) (v : Value) (w : World) (H : PL w pb mk n N most last q rs v) (hh : InR h) (hq : q h = some (x1, fr)) (hn : n ≤ 1000000) : Calls Try.prog 37 #[.pointer (some ⟨pb, 0, none⟩), .int .i64 h, .int .i64 fr, .int .i64 to] w fun e w' => e = .returned (.bool true) ∧ PL w' pb mk (n + 1) N most last (updI q h (some (x1, to))) rs v ∧ PX pb mk v v w w' := by
  have c2 := H.c2
  have hl := H.hm.look hh
  rw [hq] at hl
  have hl' : (Instr.lookup 75 (.map (some mk)) (.int .i64 h) false).run Try.prog w = .ok (.agg #[.string x1, .int .i64 fr]) w := hl
  have B1 : Below w.heap.size w (w.alloc (.cells #[.string x1, .int .i64 to] 87)) := (Below.refl _ _).alloc (Nat.le_refl _) _
  have H1 := H.keep B1
  have tb := tblk_new w (.cells #[.string x1, .int .i64 to] 87)
  have s1 : (w.alloc (.cells #[.string x1, .int .i64 to] 87)).heap.size = w.heap.size + 1 := by simp
  have hmn : mk < w.heap.size := H.hm.lt
  have hqs : ∀ g y, updI q h (some (x1, to)) g = some y → y.1.size ≤ 281474976710656 := fun g y hy => by
    by_cases e : g = h
    · rw [e, updI_same] at hy
      rw [← Option.some.inj hy]; exact H.qs h (x1, fr) hq
    · rw [updI_other _ _ e] at hy
      exact H.qs g y hy
  generalize hW1 : w.alloc (.cells #[.string x1, .int .i64 to] 87) = w1 at *
  have Hd : PL w1.drew pb mk n N most last q rs v := H1.keep (Below.refl _ _).drew
  obtain ⟨w2, r2, M2, g2⟩ := Hd.hm.put (by unfold maxLen; omega) hh x1 to
  simp only [hq, Option.isSome_some, if_true] at M2
  have H2 := Hd.setM M2 g2 hqs
  have X2 : PX pb mk v v w w2 := ((PX.refl pb mk v w).bel B1).trans (((PX.refl pb mk v w1).bel (Below.refl _ _).drew).trans (PX.ofMap g2))
  have cd2 := Hd.c2
  have c22 := H2.c2
  have t0 : w1.cell? ⟨w.heap.size, 0, none⟩ = some (.string x1) := tblk_cell tb rfl
  have t1 : w1.cell? ⟨w.heap.size, 1, none⟩ = some (.int .i64 to) := tblk_cell tb rfl
  have tb2 : w2.heap[w.heap.size]? = some (.cells #[.string x1, .int .i64 to] 87) := (g2.block _ (by show _ < w1.heap.size; omega) (fun e => by cases e; omega)).trans tb
  have u0 : w2.cell? ⟨w.heap.size, 0, none⟩ = some (.string x1) := tblk_cell tb2 rfl
  have u1 : w2.cell? ⟨w.heap.size, 1, none⟩ = some (.int .i64 to) := tblk_cell tb2 rfl
  have c21 := H1.c2
  have HR : Hid (PL w2 pb mk (n + 1) N most last (updI q h (some (x1, to))) rs v ∧ PX pb mk v v w w2) := ⟨H2, X2⟩
  have d1 : (fr == fr) = true := by simp
  clear H H1 Hd H2 X2 M2 g2 tb tb2 B1 hl hq hqs s1 hmn
  go_enter Try.func37, Try.ntmps37
  go_wp2_with fail
  go_region_held3 (fun W => W.cell? ⟨pb, 2, none⟩ = some (.map (some mk)) ∧ W.cell? ⟨w.heap.size, 0, none⟩ = some (.string x1) ∧ W.cell? ⟨w.heap.size, 1, none⟩ = some (.int .i64 to)) (go_keep) (first | (refine step_put rfl _ _ _ 75 rfl _ _ _ w2 rfl rfl rfl r2 ?_))
  go_wp2
  go_ret
  exact ⟨rfl, HR.out.1, HR.out.2⟩
set_option maxHeartbeats 400000 in
theorem pljoined_any (h : Int) (pb mk n N : Nat) (most last : Int) (q : HF) (rs : List Int) (v : Value) (w : World) (H : PL w pb mk n N most last q rs v) (hh : InR h) (hn : n ≤ 1000000) : Calls Try.prog 11 #[.pointer (some ⟨pb, 0, none⟩), .int .i64 h] w fun e w' =>
    (∃ x1, q h = some (x1, 1) ∧ e = .returned (.bool true) ∧ PL w' pb mk (n + 1) N most last (updI q h (some (x1, 2))) rs v ∧ PX pb mk v v w w') ∨ ((lookH (q h)).2 ≠ 1 ∧ e = .returned (.bool false) ∧ PL w' pb mk (n + 1) N most last q rs v ∧ PX pb mk v v w w') := by
  by_cases hs : (lookH (q h)).2 = 1
  · obtain ⟨x1, hx⟩ : ∃ x1, q h = some (x1, 1) := by
      cases hq : q h with
      | none => rw [hq] at hs; exact absurd hs (by decide)
      | some x =>
        rw [hq] at hs
        obtain ⟨y1, y2⟩ := x
        have : y2 = 1 := hs
        subst this
        exact ⟨y1, rfl⟩
    have HMV := hidE (plmove_yes h 1 2 x1 pb mk n N most last q rs v w H hh hx hn)
    have HX := hidE hx
    clear H hs hx
    go_enter Try.func11, Try.ntmps11
    go_wp2_with fail
    refine HMV.out.mono ?_
    rintro e w1 ⟨rfl, H1, X1⟩
    have HR : Hid (PL w1 pb mk (n + 1) N most last (updI q h (some (x1, 2))) rs v ∧ PX pb mk v v w w1) := ⟨H1, X1⟩
    clear HMV H1 X1
    go_wp2
    go_ret
    exact .inl ⟨x1, HX.out, rfl, HR.out.1, HR.out.2⟩
  · have HMV := hidE (plmove_no h 1 2 pb mk n N most last q rs v w H hh hs)
    have HS := hidE hs
    have HH := hidE H
    clear H hs
    go_enter Try.func11, Try.ntmps11
    go_wp2_with fail
    refine HMV.out.mono ?_
    rintro e w1 ⟨rfl, B1⟩
    have HR : Hid (PL w1 pb mk (n + 1) N most last q rs v ∧ PX pb mk v v w w1) := ⟨(HH.out.keep B1).mono (Nat.le_succ _), (PX.refl _ _ _ _).bel B1⟩
    clear HMV B1 HH
    go_wp2
    go_ret
    exact .inr ⟨HS.out, rfl, HR.out.1, HR.out.2⟩
/-- DeleteFunc of no row. -/
theorem idxnil_any (h : Int) (p : Nat) (w : World) : Calls Try.prog 47 #[.slice none 0 0, .func (.func 45) #[] #[.pointer (some ⟨p, 0, none⟩)]] w fun e w' => e = .returned (.int .i64 (-1)) ∧ w = w' := by
  go_enter Try.func47, Try.ntmps47
  go_wp2_with fail
  go_loopw [8] (fun vi wr => vi = .int .i64 0 ∧ Hid (w = wr)) (fun vi _ => 0)
  case atStart => exact ⟨rfl, (by first | exact rfl | exact True.intro)⟩
  case round =>
    obtain ⟨rfl, hW⟩ := hrel
    obtain rfl := hW.out
    go_wp2
    go_ret
    exact ⟨rfl, rfl⟩
theorem delnil_any (h : Int) (p : Nat) (w : World) : Calls Try.prog 44 #[.slice none 0 0, .func (.func 45) #[] #[.pointer (some ⟨p, 0, none⟩)]] w fun e w' => e = .returned (.slice none 0 0) ∧ w = w' := by
  have HI := hidE (idxnil_any h p w)
  go_enter Try.func44, Try.ntmps44
  go_wp2_with fail
  refine HI.out.mono ?_
  rintro e w1 ⟨rfl, rfl⟩
  clear HI
  go_wp2
  go_ret
  exact ⟨rfl, rfl⟩
end Go.Proofs.Ytlaigjapnmgjeaa
