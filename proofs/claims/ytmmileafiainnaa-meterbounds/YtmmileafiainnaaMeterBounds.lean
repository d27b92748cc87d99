/- Whatever the number and the list, MeterBounds answers true: what is held is never more than may be and never below 0, and the peak never falls; no condition. -/
import Derived.Test.YtmmileafiainnaaRows
import Derived.WalkKit
import Derived.ProofKit
import Derived.OpenShut
import Derived.ShutString
import Derived.ChangeOld
import Derived.Below
import Derived.Deep.DeepCutAuto
import Derived.Test.YtmmileafiainnaaMeterC
namespace Go.Proofs.Ytmmileafiainnaa.meterBounds
open Go.ChangeShapes Go.WideShapes Go.ChangeAt Go.RowKit
open Go.ChangeMaps (open_string shut_string)
set_option linter.unusedVariables false

theorem own : ownKnob Try.prog.godebug = none := by kernel_rfl
theorem laidOut : laidOutB Try.prog = true := by kernel_rfl

/-- A list of numbers that came in. -/
def IsRow (k : IntKind) (w : World) (a : Option Addr) (len cap : Nat) (zs : List Int) : Prop :=
  (a = none ∧ len = 0 ∧ cap = 0 ∧ zs = []) ∨
  ∃ x, a = some x ∧ len ≤ cap ∧ cap ≤ maxLen ∧ zs.length = cap ∧ (∀ i, i < zs.length → w.cell? (x.add i) = some (.int k (zs.getD i 0))) ∧ ∀ n ∈ zs, (Lit.int k n).wf = true

theorem lt_of_cell {w : World} {b o : Nat} {v : Value} (h : w.cell? ⟨b, o, none⟩ = some v) : b < w.heap.size := by
  unfold World.cell? at h
  rcases Nat.lt_or_ge b w.heap.size with c | c
  · exact c
  · simp [Array.getElem?_eq_none c] at h
theorem pst_bd {h p M : Int} (a : 0 ≤ h) (b : h ≤ M) (c : 0 ≤ p) (d : p ≤ M) : 0 ≤ pst h p ∧ pst h p ≤ M := by unfold pst; split <;> omega
theorem pk_take {h p n : Int} (a : 0 ≤ n) : pst (h + n) p = if pst h p < h + n then h + n else pst h p := by unfold pst; split <;> split <;> split <;> omega
theorem pk_no {h p : Int} : pst h p = if pst h p < h then h else pst h p := by unfold pst; split <;> split <;> omega
theorem gvL_bd {h n : Int} (a : 0 ≤ h) : 0 ≤ gvL h n ∧ gvL h n ≤ h := by unfold gvL; split <;> (try split) <;> omega
theorem gvP_bd {h p n M : Int} (a : 0 ≤ h) (b : h ≤ M) (c : 0 ≤ p) (d : p ≤ M) : 0 ≤ gvP h p n ∧ gvP h p n ≤ M := by unfold gvP pst; split <;> (try split) <;> omega
theorem pk_give {h p n : Int} (a : 0 ≤ h) : pst (h - gvL h n) (gvP h p n) = if pst h p < h - gvL h n then h - gvL h n else pst h p := by
  unfold gvL gvP
  by_cases c : n ≤ 0
  · simp only [if_pos c, Int.sub_zero]; exact pk_no
  · simp only [if_neg c]; unfold pst; by_cases d : n ≤ h <;> by_cases e : h ≤ p <;> simp only [d, e, if_true, if_false] <;> split <;> split <;> omega

set_option maxRecDepth 100000 in
set_option maxHeartbeats 4000000 in
theorem walk_some (a0 : Int) (len cap : Nat) (b0 off0 : Nat) (z : List Int) (w : World) (hl : len ≤ maxLen) (hcell : ∀ i, i < len → w.cell? ⟨b0, off0 + i, none⟩ = some (.int .i64 (z.getD i 0))) (hpos : 0 < len) :
    Calls Try.prog 4 #[.int .i64 a0, .slice (some ⟨b0, off0, none⟩) len cap] w fun e w' => e = .returned (.bool true) ∧ Below w.heap.size w w' := by
  unfold maxLen at hl
  have hb0 : b0 < w.heap.size := lt_of_cell (hcell 0 hpos)
  have bm := mst_bd a0
  go_enter Try.func4, Try.ntmps4
  go_wp2_with fail
  refine (new_m a0 _).mono ?_
  rintro e w1 ⟨b, rfl, hb, hm, hB⟩
  have HB : Hid (w.heap.size = b) := hb
  clear hb
  go_wp2_with fail
  refine (alive_any _).mono ?_
  rintro e w2 ⟨rfl, hA⟩
  have hm2 := Below.isM hA hm.lt hm
  have hB2 := hB.trans (hA.mono hB.size)
  clear hm hA hB
  go_upto_region 4 with fail
  go_cut [0] (fun x wx => x = .int .i64 (mst a0) ∧ wx = w2)
  case first =>
    rcases mst3 a0 with ⟨k, e⟩ | ⟨k, k', e⟩ | ⟨k, e⟩
    all_goals
      have E : Hid (mst a0 = _) := e
      clear e
      go_wp2
      go_meet
      exact ⟨by rw [E.out], rfl⟩
  case rest =>
    obtain ⟨rfl, rfl⟩ := hcut
    generalize mst a0 = M at *
    obtain ⟨bm0, bm1⟩ := bm
    go_wp2_with fail
    go_loopw [6, 7, 23] (fun vh vp vk wr => ∃ (k : Nat) (h p : Int), k ≤ len ∧ vk = .int .i64 k ∧ vh = .int .i64 h ∧ vp = .int .i64 (pst h p) ∧ 0 ≤ h ∧ h ≤ M ∧ 0 ≤ p ∧ p ≤ M ∧ IsM wr b M h p ∧ Below w.heap.size w wr) (fun _ _ vk _ => len - (intOf vk).toNat)
    case atStart => exact ⟨0, 0, 0, Nat.zero_le _, rfl, rfl, rfl, by omega, by omega, by omega, by omega, hm2, hB2⟩
    case round =>
      obtain ⟨k, h, p, hk, rfl, rfl, rfl, h0, h1, p0, p1, hm, hB⟩ := hrel
      clear hm2 hB2
      by_cases hlt : k < len
      · have hc0 := (hB.cell (p := ⟨b0, off0 + k, none⟩) hb0).trans (hcell k hlt)
        generalize z.getD k 0 = n at *
        have bq := pst_bd h0 h1 p0 p1
        go_upto_if 30 with fail
        go_cut [6] (fun vh wx => ∃ (h' p' : Int), vh = .int .i64 h' ∧ 0 ≤ h' ∧ h' ≤ M ∧ 0 ≤ p' ∧ p' ≤ M ∧ Hid (pst h' p' = if pst h p < h' then h' else pst h p) ∧ IsM wx b M h' p' ∧ Below w.heap.size w wx)
        case first =>
          cases hbit : (bits BinOp.and IntKind.i64 (k : Int) 1 == 0)
          · have bg := gvL_bd (n := n) h0
            have bp := gvP_bd (n := n) h0 h1 p0 p1
            go_wp2_with fail
            refine (give_any b M h p n _ hm h0 h1 bm1).mono ?_
            rintro e w4 ⟨rfl, hm4, hb4⟩
            go_wp2
            go_meet
            have hb := HB.out
            exact ⟨_, _, rfl, by omega, by omega, bp.1, bp.2, pk_give h0, hm4, hB.trans (hb4.below (by omega))⟩
          · rcases Decidable.em (0 ≤ n ∧ n ≤ M - h) with c | c
            · obtain ⟨c0, c1⟩ := c
              go_wp2_with fail
              refine (take_ok b M h p n _ _ hm h0 h1 bm1 c0 c1 rfl).mono ?_
              rintro e w4 ⟨rfl, hm4, hb4⟩
              go_wp2
              go_meet
              have hb := HB.out
              exact ⟨_, _, rfl, by omega, by omega, p0, p1, pk_take c0, hm4, hB.trans (hb4.below (by omega))⟩
            · have c' : n < 0 ∨ M - h < n := by omega
              clear c
              go_wp2_with fail
              refine (take_nok b M h p n _ hm h0 h1 bm1 c').mono ?_
              rintro e w4 ⟨rfl, hm4, hb4⟩
              go_wp2
              go_meet
              have hb := HB.out
              exact ⟨_, _, rfl, by omega, by omega, p0, p1, pk_no, hm4, hB.trans (hb4.below (by omega))⟩
        case rest =>
          obtain ⟨h', p', rfl, h0', h1', p0', p1', E, hm4, hB4⟩ := hcut
          generalize pst h p = q at *
          clear hm hB hc0
          by_cases cq : q < h'
          · have E' : Hid (pst h' p' = h') := by rw [Hid, E.out, if_pos cq]
            clear E
            go_wp2_with fail
            refine (held_any b _ _ _ _ hm4).mono ?_
            rintro e w5 ⟨rfl, hm5, hb5⟩
            go_wp2_with fail
            refine (peak_at b _ _ _ h' _ hm5 E'.out).mono ?_
            rintro e w6 ⟨rfl, hm6, hb6⟩
            go_wp2_with fail
            refine (room_any b _ _ _ _ hm6 h0' h1' bm1).mono ?_
            rintro e w7 ⟨rfl, hm7, hb7⟩
            go_wp2
            have hb := HB.out
            go_roundw
            case rel => exact ⟨k + 1, h', p', by omega, by go_num, rfl, by rw [E'.out], h0', h1', p0', p1', hm7, ((hB4.trans (hb5.below (by omega))).trans (hb6.below (by omega))).trans (hb7.below (by omega))⟩
            case measure => simp [intOf]; omega
          · have E' : Hid (pst h' p' = q) := by rw [Hid, E.out, if_neg cq]
            clear E
            go_wp2_with fail
            refine (held_any b _ _ _ _ hm4).mono ?_
            rintro e w5 ⟨rfl, hm5, hb5⟩
            go_wp2_with fail
            refine (peak_at b _ _ _ q _ hm5 E'.out).mono ?_
            rintro e w6 ⟨rfl, hm6, hb6⟩
            go_wp2_with fail
            refine (room_any b _ _ _ _ hm6 h0' h1' bm1).mono ?_
            rintro e w7 ⟨rfl, hm7, hb7⟩
            go_wp2
            have hb := HB.out
            go_roundw
            case rel => exact ⟨k + 1, h', p', by omega, by go_num, rfl, by rw [E'.out], h0', h1', p0', p1', hm7, ((hB4.trans (hb5.below (by omega))).trans (hb6.below (by omega))).trans (hb7.below (by omega))⟩
            case measure => simp [intOf]; omega
      · go_wp2
        go_ret
        exact ⟨rfl, hB⟩

set_option maxRecDepth 100000 in
set_option maxHeartbeats 4000000 in
theorem walk_none (a0 : Int) (a1 : Option Addr) (cap : Nat) (w : World) :
    Calls Try.prog 4 #[.int .i64 a0, .slice a1 0 cap] w fun e w' => e = .returned (.bool true) ∧ Below w.heap.size w w' := by
  go_enter Try.func4, Try.ntmps4
  go_wp2_with fail
  refine (new_m a0 _).mono ?_
  rintro e w1 ⟨b, rfl, hb, hm, hB⟩
  have HB : Hid (w.heap.size = b) := hb
  clear hb
  go_wp2_with fail
  refine (alive_any _).mono ?_
  rintro e w2 ⟨rfl, hA⟩
  have hm2 := Below.isM hA hm.lt hm
  have hB2 := hB.trans (hA.mono hB.size)
  clear hm hA hB
  go_upto_region 4 with fail
  go_cut [0] (fun x wx => x = .int .i64 (mst a0) ∧ wx = w2)
  case first =>
    rcases mst3 a0 with ⟨k, e⟩ | ⟨k, k', e⟩ | ⟨k, e⟩
    all_goals
      have E : Hid (mst a0 = _) := e
      clear e
      go_wp2
      go_meet
      exact ⟨by rw [E.out], rfl⟩
  case rest =>
    obtain ⟨rfl, rfl⟩ := hcut
    go_wp2_with fail
    refine wp_loop_rounds 1 ?_
    rw [rounds_succ]
    go_wp2
    go_ret
    exact ⟨rfl, hB2⟩

theorem walk (a0 : Int) (a1 : Option Addr) (len1 cap1 : Nat) (z1 : List Int) (w : World) (w1 : IsRow .i64 w a1 len1 cap1 z1) :
    Calls Try.prog 4 #[.int .i64 a0, .slice a1 len1 cap1] w fun e w' => e = .returned (.bool true) ∧ Below w.heap.size w w' := by
  rcases w1 with ⟨rfl, rfl, rfl, rfl⟩ | ⟨x, rfl, hl, hm, hz, hcell, hwz⟩
  · exact walk_none a0 none 0 w
  · rcases Nat.eq_zero_or_pos len1 with h | h
    · subst h; exact walk_none a0 (some x) cap1 w
    · obtain ⟨b, off, rfl, hc⟩ := ints_at hcell (by omega)
      exact walk_some a0 len1 cap1 b off z1 w (by omega) (fun i hi => hc i (by omega)) h

set_option maxRecDepth 100000 in
theorem lifted (os : Os) (started : os.Started) (H : Type) (enc : TypeId × Value → H) :
    ReturnsInHanded {} Try.checked os 4 .any (Rows.meterBoundsSpec.pre6 enc Try.prog Try.f4 Rows.meterBoundsRow.domain false) (Rows.meterBoundsSpec.post enc Try.prog Try.f4 false true false false) := by
  refine returnsInHanded_of_change (C := Try.checked) own started (by kernel_rfl) Try.func4
    (ChangeSpec.witness6 (enc := enc) (C := Try.checked) false ⟨#[], #[.int .i64 0, .slice none 0 0], []⟩ 8 (by kernel_rfl) (by kernel_rfl) (by kernel_rfl) (by kernel_rfl)) ?_
  intro W base args ds gs before hval0 hW hcnd _
  have hval : ∀ (j : Nat) t v, Try.f4.params[j]? = some t → args[j]? = some v → Value.okWide Try.prog W .any base t v := hval0
  have hW' := hW
  obtain ⟨p, q, hA0, hV, rfl, hfz, hnd⟩ := hW
  have hA : DataW.TrodAll enc Try.prog W 0 (fun _ => true) true Try.f4.params.toList args.toList ds p := hA0
  rw [Try.params4] at hA hval
  obtain ⟨v0, vs0, d0, ds0, p0, q0, hargs, rfl, rfl, h0, r0⟩ := trodAll_cons hA
  obtain ⟨v1, vs1, d1, ds1, p1, q1, rfl, rfl, rfl, h1, r1⟩ := trodAll_cons r0
  obtain ⟨rfl, rfl, rfl⟩ := trodAll_nil r1
  obtain rfl : args = #[v0, v1] := by cases args; simp_all
  obtain ⟨rfl, rfl⟩ := trodVars_none hV
  obtain ⟨a0, rfl, rfl, rfl, w0⟩ := open_int Try.underlying3 (hval 0 3 v0 rfl rfl) h0
  obtain ⟨a1, len1, cap1, rfl⟩ := okWide_slice Try.underlying22 (hval 1 22 v1 rfl rfl)
  have k1 := h1
  have lt1 : ∀ x ∈ p1, x.block < W.heap.size := by obtain ⟨m, hm⟩ := k1; exact DataW.trod_lt m _ _ _ hm
  obtain ⟨z1, w1⟩ : ∃ zs, IsRow .i64 W a1 len1 cap1 zs := by
    obtain ⟨fuel, hf⟩ := h1
    rcases open_ints Try.underlying22 Try.underlying3 (by kernel_rfl) hf with ⟨hcs, _⟩ | ⟨x, l, c, zs, hcs, _, hl, hm, hz, _, hcell, hwz⟩
    · simp [Value.cells] at hcs
      obtain ⟨rfl, rfl, rfl⟩ := hcs
      exact ⟨[], .inl ⟨rfl, rfl, rfl, rfl⟩⟩
    · simp [Value.cells] at hcs
      obtain ⟨rfl, rfl, rfl⟩ := hcs
      exact ⟨zs, .inr ⟨_, rfl, hl, hm, by simpa using hz, hcell, hwz⟩⟩
  clear hA0 hval0
  refine (walk a0 a1 len1 cap1 z1 W w1).mono fun e W' ⟨he, bel⟩ => ?_
  subst he
  exact ⟨_, rfl, _, _, _, [], _, [], hW', trodAll_mk1 (shut_bool Try.underlying4 _), (trodAll_cons_mk (shut_int Try.underlying3 w0) (trodAll_cons_mk (Below.trod laidOut (by kernel_rfl) (of_decide_eq_true (by kernel_rfl)) k1 bel lt1) trodAll_mk0)), rfl, bel.frame _, fun h => by cases h⟩

theorem over : Rows.meterBoundsRow.holds Try.pinned (OpenSpec.ofChange Rows.meterBoundsSpec) :=
  OpenClaim.holds_of_wide 4 Try.f4 rfl rfl rfl rfl rfl rfl rfl ⟨rfl, rfl, rfl, rfl, rfl⟩ rfl rfl rfl rfl rfl (by kernel_rfl) Try.func4 (by kernel_rfl)
    (of_decide_eq_true (by kernel_rfl)) (by unfold Func.isWrapper; first | (rw [if_pos (by decide +kernel)]; kernel_rfl) | (rw [if_neg (by decide +kernel)]; exact ⟨rfl, rfl⟩))
    (fun os started H enc _ => lifted os started H enc)

end Go.Proofs.Ytmmileafiainnaa.meterBounds
namespace Go.Proofs.Ytmmileafiainnaa
/-- The statement. -/
theorem meterBounds_holds : Rows.MeterBoundsSaid := meterBounds.over
#print axioms meterBounds_holds
end Go.Proofs.Ytmmileafiainnaa
