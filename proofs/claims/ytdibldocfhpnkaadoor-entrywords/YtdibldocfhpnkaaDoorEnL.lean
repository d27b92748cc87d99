/- All walked. -/
import Derived.Test.YtdibldocfhpnkaaDoorEnK
import Derived.Test.YtdibldocfhpnkaaDoorRgR
namespace Go.Proofs.YtdibldocfhpnkaaDoor
open Go.RowKit Go.Shelf
attribute [local go_sem] Oper.semAt_some
set_option linter.unusedVariables false

theorem lines_len (b : List UInt8) : (linesL b).length ≤ b.length ∧ ∀ x ∈ linesL b, x.length ≤ b.length := by
  have key : ∀ (l acc : List UInt8), (lnA acc l).length ≤ acc.length + l.length ∧ ∀ x ∈ lnA acc l, x.length ≤ acc.length + l.length := by
    intro l
    induction l with
    | nil =>
      intro acc
      unfold lnA
      split
      · exact ⟨Nat.zero_le _, fun x hx => by cases hx⟩
      · rename_i h
        have : 0 < acc.length := List.length_pos_iff.2 h
        exact ⟨by simp; omega, fun x hx => by rw [List.mem_singleton] at hx; rw [hx]; simp⟩
    | cons c l ih =>
      intro acc
      unfold lnA
      split
      · have k := ih []
        refine ⟨?_, fun x hx => ?_⟩
        · have := k.1; simp only [List.length_cons, List.length_nil] at this ⊢; omega
        · rcases List.mem_cons.1 hx with rfl | hx
          · simp only [List.length_append, List.length_cons, List.length_nil]; omega
          · have := k.2 x hx; simp only [List.length_cons, List.length_nil] at this ⊢; omega
      · have k := ih (acc ++ [c])
        refine ⟨?_, fun x hx => ?_⟩
        · have := k.1; simp only [List.length_append, List.length_cons, List.length_nil] at this ⊢; omega
        · have := k.2 x hx; simp only [List.length_append, List.length_cons, List.length_nil] at this ⊢; omega
  have k := key b []
  simp only [List.length_nil, Nat.zero_add] at k
  exact k
set_option maxRecDepth 100000 in
set_option maxHeartbeats 1600000 in
theorem enall_any (b : List UInt8) (k : Nat) (a : Option Addr) (n c : Nat) (w : World) (hS : Src w k (.slice a n c) b) (hk : k < w.heap.size) (hn : b.length ≤ 1048576) (hM : MaxL w) (hL : LmT w) (hP : PowT w) :
    Calls Tryd.prog 15 #[.slice a n c] w (AllR w b) := by
  obtain rfl := hS.len.1.symm
  refine (callsIn_wide (n := 3)).1 (callsIn_of_wp_marks Tryd.func15 rfl trivial ?_)
  simp only [Tryd.ntmps15, List.size_toArray, List.length_cons, List.length_nil, Nat.reduceAdd, Nat.reduceSub, Array.replicate_succ, Array.replicate_zero, List.push_toArray, List.append_toArray, List.nil_append, List.cons_append]
  have HL : Hid (∀ W, Calls Tryd.prog 32 #[.slice a b.length c] W fun e w' => e = .returned (.func (.func 46) #[] #[.pointer (some ⟨W.heap.size, 0, none⟩)]) ∧ w' = W.alloc (.cells #[.slice a b.length c] 25)) := fun W => blines_any a b.length c W
  gi_wp2_with (refine ⟨trivial, ?_⟩; gi_at_call 32; refine (callsIn_wide.2 (HL.out _)).mono ?_; rintro e w' ⟨rfl, rfl⟩)
  rename_i KK HKK
  have hsz0 : ((((w.alloc (.cells #[.slice none 0 0] 36)).alloc (.cells #[.int .i64 0] 26)).alloc (.cells #[.slice none 0 0] 36)).alloc (.cells #[.slice a b.length c] 25)).heap.size = w.heap.size + 4 := by simp
  have hI0 : AllI w [] ((((w.alloc (.cells #[.slice none 0 0] 36)).alloc (.cells #[.int .i64 0] 26)).alloc (.cells #[.slice none 0 0] 36)).alloc (.cells #[.slice a b.length c] 25)) := by
    have n0 := World.alloc_heap_new w (.cells #[.slice none 0 0] 36)
    have n1 := World.alloc_heap_new (w.alloc (.cells #[.slice none 0 0] 36)) (.cells #[.int .i64 0] 26)
    have n2 := World.alloc_heap_new ((w.alloc (.cells #[.slice none 0 0] 36)).alloc (.cells #[.int .i64 0] 26)) (.cells #[.slice none 0 0] 36)
    simp only [World.size_alloc] at n1 n2
    exact ⟨_, heap_alY _ n2, OwnE.nil _ _, rfl, heap_alY _ (heap_alY _ (heap_alY _ n0)), heap_alY _ (heap_alY _ n1), ((((Below.refl _ _).alloc (Nat.le_refl _) _).alloc (by simp) _).alloc (by simp; omega) _).alloc (by simp; omega) _, by rw [hsz0]; exact Nat.le_refl _⟩
  have hc0 : LeftY w ((((w.alloc (.cells #[.slice none 0 0] 36)).alloc (.cells #[.int .i64 0] 26)).alloc (.cells #[.slice none 0 0] 36)).alloc (.cells #[.slice a b.length c] 25)) (w.heap.size + 3) k b := by
    have n3 := World.alloc_heap_new (((w.alloc (.cells #[.slice none 0 0] 36)).alloc (.cells #[.int .i64 0] 26)).alloc (.cells #[.slice none 0 0] 36)) (.cells #[.slice a b.length c] 25)
    simp only [World.size_alloc] at n3
    exact ⟨a, c, n3, hS⟩
  clear HL
  refine range_blines w 3 (w.heap.size + 3) k (by decide) (by rw [hsz0]; omega) b (by omega) hc0 rfl rfl (AllI w) (AllX w) (by rw [hsz0]; exact allI_put w) (by rw [hsz0]; exact allX_put w) (allI_alloc w) (allI_set w) (allI_drew w) hI0 (fun pre W h => by obtain ⟨v, _, _, _, _, _, h8, _⟩ := h; exact h8.block k hk)
    (fun x => { tmps := #[.slice a b.length c, undef, .pointer (some ⟨w.heap.size, 0, none⟩), .pointer (some ⟨w.heap.size + 1, 0, none⟩), .pointer (some ⟨w.heap.size + 1 + 1, 0, none⟩), x, undef, undef, .slice a b.length c, .func (.func 46) #[] #[.pointer (some ⟨w.heap.size + 1 + 1 + 1, 0, none⟩)], x, undef, undef, undef, undef, undef, undef, undef, undef, undef, undef, undef, undef, undef, undef, undef, undef, undef, undef, undef, undef, undef, undef, undef, undef, undef, undef, undef, undef, undef], defers := [] }) ?assign ?body ?done ?stop
  case assign =>
    intro l x W K hK
    gi_wp2
    exact hK
  case body =>
    intro l pre x sa W hI hSx hxp hpre
    clear hI0 hc0 hsz0
    have hxl : x.length ≤ 1048576 := Nat.le_trans ((lines_len b).2 x (hpre.subset (by simp))) hn
    have hpl : pre.length ≤ 1048576 := by
      have e2 := hpre.length_le
      have := (lines_len b).1
      rw [List.length_append] at e2
      omega
    have hII := hI
    obtain ⟨v, h1, h2, h3, h6, h7, h8, h9⟩ := hII
    have HRd : Hid (Calls Tryd.prog 11 #[.slice sa x.length x.length] W fun r w' => r = .returned (.tuple #[.agg (entV (valL x)), .int .i64 (codR ⟨x.toArray⟩)]) ∧ Below W.heap.size W w') := enread_any x k sa x.length x.length W (hSx.frame (h8.block k hk)) (fun _ => Nat.lt_of_lt_of_le hk h8.size) (by omega) (hM.below h8) (hL.below h8) (hP.below h8)
    have hcd : codR ⟨x.toArray⟩ = if okL x = true then 0 else 20 := rfl
    rw [hcd] at HRd
    clear hcd
    simp only [entV] at HRd
    cases hok : okL x
    · have hg : goodB (pre ++ [x]) = false := by rw [good_snoc, hok, Bool.false_and, Bool.and_false]
      rw [hok] at HRd
      simp only [Bool.false_eq_true, if_false] at HRd
      have PS : Hid (∀ W2, Below W.heap.size W W2 → _) := fun W2 k3 => all_stop hI hg 20 (by rw [hok]; rfl) k3
      clear hI h1 h2 h3 h6 h7 h8 h9 hSx hS hM hL hP hpre hpl HKK hg hok
      generalize (valL x).q = z0 at *
      generalize (valL x).a = z1 at *
      generalize (valL x).k = z2 at *
      generalize (valL x).n = z3 at *
      generalize (valL x).m = zm at *
      generalize (valL x).t = zt at *
      generalize (valL x).c = z4 at *
      generalize (valL x).u = z5 at *
      generalize (valL x).d = z6 at *
      gi_wp2_with (refine ⟨trivial, ?_⟩; gi_at_call 11; refine (CallsIn.inRound l (callsIn_wide.2 HRd.out)).mono ?_; rintro e W2 ⟨rfl, B2⟩; obtain ⟨q0, q1, q2, q3, q4, l1, l2, q5⟩ := PS.out W2 B2; clear PS B2 q0)
      exact ret_alloc _ (q5.out _ _ (Below.refl _ _))
    · rw [hok] at HRd
      simp only [if_true] at HRd
      have hrt := right_bd (ok_right hok)
      have hq0 := hrt.1 (valL x).q (by unfold numsE; simp)
      cases hlk : lastQ (pre.map valL) (valL x)
      · have hg : goodB (pre ++ [x]) = false := by rw [good_snoc, hlk, Bool.and_false, Bool.and_false]
        have PS : Hid (∀ W2, Below W.heap.size W W2 → _) := fun W2 k3 => all_stop hI hg 1 (by rw [hok]; rfl) k3
        have hne : 0 < (pre.map valL).length := by
          cases hp0 : pre.map valL with
          | nil => rw [hp0] at hlk; cases hlk
          | cons _ _ => exact Nat.succ_pos _
        obtain ⟨m, hm⟩ : ∃ m, (pre.map valL).length = m + 1 := ⟨(pre.map valL).length - 1, by omega⟩
        obtain ⟨g, cc, hv, hgN, hcell⟩ := h2.seq m (by omega)
        have hlast : (pre.map valL).getLast? = some ((pre.map valL)[m]'(by omega)) := by
          rw [List.getLast?_eq_getElem?, show (pre.map valL).length - 1 = m by omega]
          exact List.getElem?_eq_getElem _
        have hlr : 0 ≤ ((pre.map valL)[m]'(by omega)).q ∧ ((pre.map valL)[m]'(by omega)).q ≤ 1125899906842624 := lastq_bd h3 m (by omega)
        have hne1 : ¬ (valL x).q = ((pre.map valL)[m]'(by omega)).q + 1 := by
          unfold lastQ at hlk
          rw [hlast] at hlk
          simpa using hlk
        have hg1 : g < W.heap.size := by
          unfold World.cell? at hcell
          rcases Nat.lt_or_ge g W.heap.size with c | c
          · exact c
          · simp [Array.getElem?_eq_none c] at hcell
        generalize ((pre.map valL)[m]'(by omega)).q = lq at *
        rw [hm] at hv
        subst hv
        have HC2 : Hid (∀ W2, Below W.heap.size W W2 → W2.cell? ⟨w.heap.size + 1 + 1, 0, none⟩ = some (.slice (some ⟨g, 0, none⟩) (m + 1) cc) ∧ W2.cell? ⟨g, m * 9, none⟩ = some (.int .i64 lq) ∧ w.heap.size + 1 + 1 < W2.heap.size ∧ g < W2.heap.size ∧ W2.cell? ⟨g, (((m + 1 : Nat) : Int) - 1).toNat * 9, none⟩ = some (.int .i64 lq)) := fun W2 k3 => ⟨ring_cell ((k3.block _ (by omega)).trans h1) rfl, (k3.cell (p := ⟨g, m * 9, none⟩) hg1).trans hcell, by have := k3.size; omega, by have := k3.size; omega, by rw [show (((m + 1 : Nat) : Int) - 1).toNat = m by omega]; exact (k3.cell (p := ⟨g, m * 9, none⟩) hg1).trans hcell⟩
        obtain ⟨lq0, lq1⟩ := hlr
        obtain ⟨hz0, hz1⟩ := hq0
        have hw1 : wrap64 (((m + 1 : Nat) : Int) - 1) = (m : Int) := by rw [List.length_map] at hm; unfold wrap64; omega
        have hw2 : IntKind.i64.wrap (((m + 1 : Nat) : Int) - 1) = (m : Int) := by rw [IntKind.wrap_i64]; rw [List.length_map] at hm; omega
        have hmn : m < m + 1 := Nat.lt_succ_self m
        have hpn : 0 < m + 1 := Nat.succ_pos m
        have hpd : decide (0 < m + 1) = true := decide_eq_true hpn
        have hm0 : (0 : Int) ≤ (m : Int) := by omega
        have hm1 : ¬ (m : Int) < 0 := by omega
        have hm2 : ¬ ((m + 1 : Nat) : Int) ≤ (m : Int) := by omega
        have hmi : (m : Int) < ((m + 1 : Nat) : Int) := by omega
        have hpi : (0 : Int) < ((m + 1 : Nat) : Int) := by omega
        have hnb : ((valL x).q == lq + 1) = false := by simpa using hne1
        clear hI h1 h2 h3 h6 h7 h8 h9 hSx hS hM hL hP hpre hpl HKK hg hok hlk hrt hcell hlast hm hne hne1 hgN hg1
        generalize (valL x).q = z0 at *
        generalize (valL x).a = z1 at *
        generalize (valL x).k = z2 at *
        generalize (valL x).n = z3 at *
        generalize (valL x).m = zm at *
        generalize (valL x).t = zt at *
        generalize (valL x).c = z4 at *
        generalize (valL x).u = z5 at *
        generalize (valL x).d = z6 at *
        generalize hN : m + 1 = N at *
        clear hN
        gi_wp2_with (refine ⟨trivial, ?_⟩; gi_at_call 11; refine (CallsIn.inRound l (callsIn_wide.2 HRd.out)).mono ?_; rintro e W2 ⟨rfl, B2⟩; obtain ⟨q0, q1, q2, q3, q4, l1, l2, q5⟩ := PS.out W2 B2; obtain ⟨c1, c2, l3, l4, c3⟩ := HC2.out W2 B2; clear PS HC2 B2 q0)
        refine region_quiet_round (by kernel_rfl) (by kernel_rfl) (by kernel_rfl) ?_
        repeat (gi_big_quiet_step (fail))
        refine wpQuietIn_nil ?_
        intro _ hw'
        obtain ⟨nq, hw''⟩ := hw'
        subst hw''
        gi_wp2
        exact q5.out _ _ (below_drewN ((Below.refl _ _).alloc (Nat.le_refl _) _) nq)
      · have hg : goodB (pre ++ [x]) = true := by rw [good_snoc, h3, hok, hlk]; rfl
        rcases Nat.eq_zero_or_pos (pre.map valL).length with hne | hne
        · obtain ⟨va, vc, hv⟩ := h2.form
          rw [hne] at hv
          subst hv
          have PS : Hid (∀ W2, Below W.heap.size W W2 → ∀ nq, _) := fun W2 k3 nq => all_step nq hI h1 hg hpl k3
          clear hI h1 h2 h3 h6 h7 h8 h9 hSx hS hM hL hP hpre HKK hg hok hlk hrt hne hq0 hpl
          gi_wp2_with (refine ⟨trivial, ?_⟩; gi_at_call 11; refine (CallsIn.inRound l (callsIn_wide.2 HRd.out)).mono ?_; rintro e W2 ⟨rfl, B2⟩; obtain ⟨c1, l1, q9⟩ := PS.out W2 B2 0; clear q9)
          refine region_quiet_round (by kernel_rfl) (by kernel_rfl) (by kernel_rfl) ?_
          repeat (gi_big_quiet_step (fail))
          refine wpQuietIn_nil ?_
          intro _ hw'
          obtain ⟨nq, hw''⟩ := hw'
          subst hw''
          obtain ⟨c2, l2, g5, c5, W5, r5, d5, z5, q5⟩ := PS.out W2 B2 nq
          simp only [entV] at r5
          clear PS B2 c2 l2
          gi_wp2_with (gi_at_builtin; refine appIn_runY rfl _ _ 36 rfl _ _ _ _ rfl rfl r5 ?_)
          exact q5.out _
        · obtain ⟨m, hm⟩ : ∃ m, (pre.map valL).length = m + 1 := ⟨(pre.map valL).length - 1, by omega⟩
          obtain ⟨g, cc, hv, hgN, hcell⟩ := h2.seq m (by omega)
          have hlast : (pre.map valL).getLast? = some ((pre.map valL)[m]'(by omega)) := by
            rw [List.getLast?_eq_getElem?, show (pre.map valL).length - 1 = m by omega]
            exact List.getElem?_eq_getElem _
          have hlr : 0 ≤ ((pre.map valL)[m]'(by omega)).q ∧ ((pre.map valL)[m]'(by omega)).q ≤ 1125899906842624 := lastq_bd h3 m (by omega)
          have hne1 : (valL x).q = ((pre.map valL)[m]'(by omega)).q + 1 := by
            unfold lastQ at hlk
            rw [hlast] at hlk
            simpa using hlk
          have hg1 : g < W.heap.size := by
            unfold World.cell? at hcell
            rcases Nat.lt_or_ge g W.heap.size with c | c
            · exact c
            · simp [Array.getElem?_eq_none c] at hcell
          generalize ((pre.map valL)[m]'(by omega)).q = lq at *
          rw [hm] at hv
          subst hv
          have HC2 : Hid (∀ W2, Below W.heap.size W W2 → W2.cell? ⟨g, m * 9, none⟩ = some (.int .i64 lq) ∧ g < W2.heap.size) := fun W2 k3 => ⟨(k3.cell (p := ⟨g, m * 9, none⟩) hg1).trans hcell, by have := k3.size; omega⟩
          have PS : Hid (∀ W2, Below W.heap.size W W2 → ∀ nq, _) := fun W2 k3 nq => all_step nq hI h1 hg hpl k3
          obtain ⟨lq0, lq1⟩ := hlr
          obtain ⟨hz0, hz1⟩ := hq0
          have hw1 : wrap64 (((m + 1 : Nat) : Int) - 1) = (m : Int) := by rw [List.length_map] at hm; unfold wrap64; omega
          have hmn : m < m + 1 := Nat.lt_succ_self m
          have hpn : 0 < m + 1 := Nat.succ_pos m
          have hpd : decide (0 < m + 1) = true := decide_eq_true hpn
          have hmi : (m : Int) < ((m + 1 : Nat) : Int) := by omega
          have hpi : (0 : Int) < ((m + 1 : Nat) : Int) := by omega
          have hnb : ((valL x).q == lq + 1) = true := by simpa using hne1
          clear hI h1 h2 h3 h6 h7 h8 h9 hSx hS hM hL hP hpre HKK hg hok hlk hrt hcell hlast hm hne hne1 hgN hg1 hpl
          generalize hN : m + 1 = N at *
          clear hN
          gi_wp2_with (refine ⟨trivial, ?_⟩; gi_at_call 11; refine (CallsIn.inRound l (callsIn_wide.2 HRd.out)).mono ?_; rintro e W2 ⟨rfl, B2⟩; obtain ⟨c1, l1, q9⟩ := PS.out W2 B2 0; obtain ⟨c3, l3⟩ := HC2.out W2 B2; clear q9 HC2)
          refine region_quiet_round (by kernel_rfl) (by kernel_rfl) (by kernel_rfl) ?_
          repeat (gi_big_quiet_step (fail))
          refine wpQuietIn_nil ?_
          intro _ hw'
          obtain ⟨nq, hw''⟩ := hw'
          subst hw''
          obtain ⟨c2, l2, g5, c5, W5, r5, d5, z5, q5⟩ := PS.out W2 B2 nq
          simp only [entV] at r5
          clear PS B2 c2 l2
          gi_wp2_with (gi_at_builtin; refine appIn_runY rfl _ _ 36 rfl _ _ _ _ rfl rfl r5 ?_)
          exact q5.out _
  case done =>
    intro D W hD hI hK
    refine HKK _ _ ?_
    clear HKK hI0 hc0
    rw [hsz0] at hD
    clear hsz0
    obtain ⟨v, h1, h2, h3, h6, h7, h8, h9⟩ := hI
    obtain ⟨va, vc, hv⟩ := h2.form
    rw [List.length_map] at hv
    subst hv
    have c4 : W.cell? ⟨w.heap.size + 1 + 1, 0, none⟩ = some (.slice va (linesL b).length vc) := ring_cell h1 rfl
    have c2 : W.cell? ⟨w.heap.size, 0, none⟩ = some (.slice none 0 0) := ring_cell h6 rfl
    have z2 : W.frozen? ⟨w.heap.size, 0, none⟩ = false := ring_z h6
    have c3 : W.cell? ⟨w.heap.size + 1, 0, none⟩ = some (.int .i64 0) := ring_cell h7 rfl
    have z3 : W.frozen? ⟨w.heap.size + 1, 0, none⟩ = false := ring_z h7
    gi_wp2
    have hDl := heap_lt hK
    have hK3 : ((W.setCell ⟨w.heap.size, 0, none⟩ (.slice va (linesL b).length vc)).setCell ⟨w.heap.size + 1, 0, none⟩ (.int .i64 0)).heap[D]? = some (.deferred (some [])) := setCell_offY _ _ _ _ (setCell_offY _ _ _ _ hK (by omega)) (by omega)
    have g6a : (W.setCell ⟨w.heap.size, 0, none⟩ (.slice va (linesL b).length vc)).heap[w.heap.size]? = some (.cells #[.slice va (linesL b).length vc] 36) := by rw [ring_set h6]; rfl
    have g7a : ((W.setCell ⟨w.heap.size, 0, none⟩ (.slice va (linesL b).length vc)).setCell ⟨w.heap.size + 1, 0, none⟩ (.int .i64 0)).heap[w.heap.size + 1]? = some (.cells #[.int .i64 0] 26) := by rw [ring_set (setCell_offY _ _ _ _ h7 (by omega))]; rfl
    have g6b : ((W.setCell ⟨w.heap.size, 0, none⟩ (.slice va (linesL b).length vc)).setCell ⟨w.heap.size + 1, 0, none⟩ (.int .i64 0)).heap[w.heap.size]? = some (.cells #[.slice va (linesL b).length vc] 36) := setCell_offY _ _ _ _ g6a (by omega)
    have O3 : OwnE w.heap.size (((W.setCell ⟨w.heap.size, 0, none⟩ (.slice va (linesL b).length vc)).setCell ⟨w.heap.size + 1, 0, none⟩ (.int .i64 0)).putObj D (.deferred none)) (.slice va (linesL b).length vc) ((linesL b).map valL) := (h2.kept (((KpC.set W ⟨w.heap.size, 0, none⟩ _ (by simp)).trans (KpC.set _ ⟨w.heap.size + 1, 0, none⟩ _ (by simp))).trans (KpC.put _ D _ _ hK3 rfl))).mono (by omega)
    have B9 : Below w.heap.size w (((W.setCell ⟨w.heap.size, 0, none⟩ (.slice va (linesL b).length vc)).setCell ⟨w.heap.size + 1, 0, none⟩ (.int .i64 0)).putObj D (.deferred none)) := below_putY ((h8.setCell (p := ⟨w.heap.size, 0, none⟩) (by simp) _).setCell (p := ⟨w.heap.size + 1, 0, none⟩) (by simp) _) D _ (by omega)
    refine ⟨by simp, .inl ⟨_, _, rfl, run_takeDeferred hK3, ?_⟩⟩
    have k6 := put_cellsY (o' := .deferred none) g6b rfl hK3 rfl
    have k7 := put_cellsY (o' := .deferred none) g7a rfl hK3 rfl
    have c6 := ring_cell (i := 0) (v := .slice va (linesL b).length vc) k6 rfl
    have c7 := ring_cell (i := 0) (v := .int .i64 0) k7 rfl
    refine ⟨_, results_cells2Y rfl _ _ _ ⟨w.heap.size, 0, none⟩ ⟨w.heap.size + 1, 0, none⟩ (.slice va (linesL b).length vc) (.int .i64 0) rfl rfl (by simp [loadVar, go_sem, c6]) (by simp [loadVar, go_sem, c7]), ?_⟩
    exact ⟨B9, .inl ⟨h3, _, rfl, O3⟩⟩
  case stop =>
    intro D pre W hD hpre hX hK
    clear HKK hI0 hc0
    rw [hsz0] at hD
    clear hsz0
    obtain ⟨p0, x, h1, h2, h3, h6, h7, h8, h9⟩ := hX
    gi_wp2
    refine ⟨by simp, .inl ⟨_, _, rfl, run_takeDeferred hK, ?_⟩⟩
    have k6 := put_cellsY (o' := .deferred none) h6 rfl hK rfl
    have k7 := put_cellsY (o' := .deferred none) h7 rfl hK rfl
    have c6 : (W.putObj D (.deferred none)).cell? ⟨w.heap.size, 0, none⟩ = some (.slice none 0 0) := ring_cell k6 rfl
    have c7 : (W.putObj D (.deferred none)).cell? ⟨w.heap.size + 1, 0, none⟩ = some (.int .i64 (if okL x = true then 1 else 20)) := ring_cell k7 rfl
    refine ⟨_, results_cells2Y rfl _ _ _ ⟨w.heap.size, 0, none⟩ ⟨w.heap.size + 1, 0, none⟩ (.slice none 0 0) (.int .i64 (if okL x = true then 1 else 20)) rfl rfl (by simp [loadVar, go_sem, c6]) (by simp [loadVar, go_sem, c7]), ?_⟩
    exact ⟨below_putY h8 D _ (by omega), .inr ⟨p0, x, h1 ▸ hpre, h2, h1 ▸ h3, rfl⟩⟩
end Go.Proofs.YtdibldocfhpnkaaDoor
