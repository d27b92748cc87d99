/- Whatever the number and the two lists, MeterPlays answers true: in every order of calls a meter answers as the document says; no condition. -/
import Derived.Test.YtmmileafiainnaaRows
import Derived.WalkKit
import Derived.ProofKit
import Derived.OpenShut
import Derived.ShutString
import Derived.ChangeOld
import Derived.Below
import Derived.Deep.DeepCutAuto
import Derived.Test.YtmmileafiainnaaMeterD
namespace Go.Proofs.Ytmmileafiainnaa.meterPlays
open Go.ChangeShapes Go.WideShapes Go.ChangeAt Go.RowKit
set_option linter.unusedVariables false

theorem own : ownKnob Try.prog.godebug = none := by kernel_rfl
theorem laidOut : laidOutB Try.prog = true := by kernel_rfl

/-- In block c lies the reference's meter. -/
def IsX (w : World) (c : Nat) (h q m : Int) : Prop := w.heap[c]? = some (.cells #[.int .i64 h, .int .i64 q, .int .i64 m] 28)
theorem IsX.c0 {w : World} {c : Nat} {h q m : Int} (x : IsX w c h q m) : w.cell? ⟨c, 0, none⟩ = some (.int .i64 h) := by
  unfold IsX at x; simp [World.cell?, x]
theorem IsX.c1 {w : World} {c : Nat} {h q m : Int} (x : IsX w c h q m) : w.cell? ⟨c, 1, none⟩ = some (.int .i64 q) := by
  unfold IsX at x; simp [World.cell?, x]
theorem IsX.c2 {w : World} {c : Nat} {h q m : Int} (x : IsX w c h q m) : w.cell? ⟨c, 2, none⟩ = some (.int .i64 m) := by
  unfold IsX at x; simp [World.cell?, x]
theorem IsX.z {w : World} {c : Nat} {h q m : Int} (x : IsX w c h q m) (o : Nat) : w.frozen? ⟨c, o, none⟩ = false := by
  unfold IsX at x; simp [World.frozen?, x]
theorem IsX.lt {w : World} {c : Nat} {h q m : Int} (x : IsX w c h q m) : c < w.heap.size := by
  unfold IsX at x; exact (Array.getElem?_eq_some_iff.1 x).1
theorem IsX.set3 {w : World} {c : Nat} {h q m : Int} (x : IsX w c h q m) (h' q' m' : Int) : IsX (((w.setCell ⟨c, 0, none⟩ (.int .i64 h')).setCell ⟨c, 1, none⟩ (.int .i64 q')).setCell ⟨c, 2, none⟩ (.int .i64 m')) c h' q' m' := by
  unfold IsX at *; simp [World.setCell, Array.getElem?_modify, x]
theorem IsX.below {B c : Nat} {w w' : World} {h q m : Int} (x : IsX w c h q m) (k : Below B w w') (l : c < B) : IsX w' c h q m := by
  unfold IsX at *; rw [k.block c l]; exact x
theorem IsX.but {b c : Nat} {w w' : World} {h q m : Int} (x : IsX w c h q m) (k : But b w w') (l : c ≠ b) : IsX w' c h q m := by
  unfold IsX at *; rw [k.block c l]; exact x

theorem lt_of_cell {w : World} {b o : Nat} {v : Value} (h : w.cell? ⟨b, o, none⟩ = some v) : b < w.heap.size := by
  unfold World.cell? at h
  rcases Nat.lt_or_ge b w.heap.size with c | c
  · exact c
  · simp [Array.getElem?_eq_none c] at h
theorem pst_bd {h p M : Int} (a : 0 ≤ h) (b : h ≤ M) (c : 0 ≤ p) (d : p ≤ M) : 0 ≤ pst h p ∧ pst h p ≤ M := by unfold pst; split <;> omega
theorem gvL_bd {h n : Int} (a : 0 ≤ h) : 0 ≤ gvL h n ∧ gvL h n ≤ h := by unfold gvL; split <;> (try split) <;> omega
theorem gvP_bd {h p n M : Int} (a : 0 ≤ h) (b : h ≤ M) (c : 0 ≤ p) (d : p ≤ M) : 0 ≤ gvP h p n ∧ gvP h p n ≤ M := by unfold gvP pst; split <;> (try split) <;> omega
theorem tkH_bd {M h n : Int} (a : 0 ≤ h) (b : h ≤ M) : 0 ≤ tkH M h n ∧ tkH M h n ≤ M := by unfold tkH; split <;> omega
theorem pk_take {M h p n : Int} : rpk M h (pst h p) n = pst (tkH M h n) p := by
  unfold rpk tkH
  by_cases c : 0 ≤ n ∧ n ≤ M - h
  · simp only [if_pos c]; unfold pst; split <;> split <;> (try split) <;> omega
  · simp only [if_neg c]
theorem pk_give {h p n : Int} (a : 0 ≤ h) : pst h p = pst (h - gvL h n) (gvP h p n) := by
  unfold gvL gvP
  by_cases c : n ≤ 0
  · simp only [if_pos c, Int.sub_zero]
  · simp only [if_neg c]; unfold pst; by_cases d : n ≤ h <;> by_cases e : h ≤ p <;> simp only [d, e, if_true, if_false] <;> split <;> omega

/-- The world behind 'x = next'. -/
theorem step3 {w : World} {B c b : Nat} {h q m M y p : Int} (hx : IsX w c h q m) (hm : IsM w b M y p) (hne : b ≠ c) (hB : B ≤ c) (hS : B ≤ w.heap.size) (h' q' m' : Int) (o : Obj) :
    IsM ((((w.setCell ⟨c, 0, none⟩ (.int .i64 h')).setCell ⟨c, 1, none⟩ (.int .i64 q')).setCell ⟨c, 2, none⟩ (.int .i64 m')).alloc o) b M y p ∧
    IsX ((((w.setCell ⟨c, 0, none⟩ (.int .i64 h')).setCell ⟨c, 1, none⟩ (.int .i64 q')).setCell ⟨c, 2, none⟩ (.int .i64 m')).alloc o) c h' q' m' ∧
    Below B w ((((w.setCell ⟨c, 0, none⟩ (.int .i64 h')).setCell ⟨c, 1, none⟩ (.int .i64 q')).setCell ⟨c, 2, none⟩ (.int .i64 m')).alloc o) := by
  have k1 := (But.set c 2 ((w.setCell ⟨c, 0, none⟩ (.int .i64 h')).setCell ⟨c, 1, none⟩ (.int .i64 q')) (.int .i64 m')).isM hne ((But.set c 1 (w.setCell ⟨c, 0, none⟩ (.int .i64 h')) (.int .i64 q')).isM hne ((But.set c 0 w (.int .i64 h')).isM hne hm))
  have k2 := hx.set3 h' q' m'
  have k3 : Below B w (((w.setCell ⟨c, 0, none⟩ (.int .i64 h')).setCell ⟨c, 1, none⟩ (.int .i64 q')).setCell ⟨c, 2, none⟩ (.int .i64 m')) := (((Below.refl B w).setCell (p := ⟨c, 0, none⟩) hB _).setCell (p := ⟨c, 1, none⟩) hB _).setCell (p := ⟨c, 2, none⟩) hB _
  generalize (((w.setCell ⟨c, 0, none⟩ (.int .i64 h')).setCell ⟨c, 1, none⟩ (.int .i64 q')).setCell ⟨c, 2, none⟩ (.int .i64 m')) = u at *
  have ha := (Below.refl u.heap.size u).alloc (Nat.le_refl _) o
  exact ⟨Below.isM ha k1.lt k1, k2.below ha k2.lt, k3.alloc (Nat.le_trans hS k3.size) o⟩

set_option maxRecDepth 100000 in
set_option maxHeartbeats 4000000 in
theorem walk_some (a0 : Int) (len cap : Nat) (b0 off0 : Nat) (a2 : Option Addr) (len2 cap2 : Nat) (z : List Int) (w : World) (hl : len ≤ maxLen) (hl2 : len2 ≤ maxLen) (hcell : ∀ i, i < len → w.cell? ⟨b0, off0 + i, none⟩ = some (.int .i64 (z.getD i 0))) (hpos : 0 < len)
    (htk : ∀ i, i < len2 → ∃ b off v, a2 = some ⟨b, off, none⟩ ∧ w.cell? ⟨b, off + i, none⟩ = some (.bool v)) :
    Calls Try.prog 3 #[.int .i64 a0, .slice (some ⟨b0, off0, none⟩) len cap, .slice a2 len2 cap2] w fun e w' => e = .returned (.bool true) ∧ Below w.heap.size w w' := by
  unfold maxLen at hl hl2
  have hb0 : b0 < w.heap.size := lt_of_cell (hcell 0 hpos)
  have bm := mst_bd a0
  go_enter Try.func3, Try.ntmps3
  go_wp2_with fail
  refine (new_m a0 _).mono ?_
  rintro e w1 ⟨b, rfl, hb, hm, hB⟩
  have HB : Hid (w.heap.size = b) := hb
  clear hb
  go_wp2_with fail
  refine (alive_any _).mono ?_
  rintro e w2 ⟨rfl, hA⟩
  have hm2 := Below.isM hA hm.lt hm
  have hB2 := hB.trans (hA.mono hB.size)
  clear hm hA hB
  go_wp2_with fail
  refine (rnew_any a0 _).mono ?_
  rintro e w3 ⟨rfl, hA⟩
  have hm3 := Below.isM hA hm2.lt hm2
  have hB3 := hB2.trans (hA.mono hB2.size)
  have hlt3 := hm3.lt
  clear hm2 hA hB2
  generalize mst a0 = M at *
  obtain ⟨bm0, bm1⟩ := bm
  go_wp2_with fail
  have hxn : w3.heap.size ≠ b := by omega
  have hbn : b ≠ w3.heap.size := by omega
  have hbx : w.heap.size ≤ w3.heap.size := hB3.size
  go_loopw [27] (fun vk wr => ∃ (k : Nat) (h p : Int), k ≤ len ∧ vk = .int .i64 k ∧ 0 ≤ h ∧ h ≤ M ∧ 0 ≤ p ∧ p ≤ M ∧ IsM wr b M h p ∧ IsX wr w3.heap.size h (pst h p) M ∧ Below w.heap.size w wr) (fun vk _ => len - (intOf vk).toNat)
  case atStart =>
    refine ⟨0, 0, 0, Nat.zero_le _, rfl, by omega, by omega, by omega, by omega, ?_, ?_, hB3.alloc (by omega) _⟩
    · exact Below.isM ((Below.refl w3.heap.size w3).alloc (Nat.le_refl _) _) hlt3 hm3
    · show (w3.heap.push _)[w3.heap.size]? = _
      simp; rfl
  case round =>
    obtain ⟨k, h, p, hk, rfl, h0, h1, p0, p1, hm, hx, hB⟩ := hrel
    clear hm3 hB3
    by_cases hlt : k < len
    · have hc0 := (hB.cell (p := ⟨b0, off0 + k, none⟩) hb0).trans (hcell k hlt)
      generalize z.getD k 0 = n at *
      have x0 := hx.c0
      have x1 := hx.c1
      have x2 := hx.c2
      go_upto_region 8 with fail
      go_cut [41] (fun v wx => (∃ t : Bool, v = .bool t) ∧ wx = wr)
      case first =>
        by_cases h2 : k < len2
        · obtain ⟨b2, off2, v, ha2, hcv⟩ := htk k h2
          subst ha2
          have hcv' := (hB.cell (p := ⟨b2, off2 + k, none⟩) (lt_of_cell hcv)).trans hcv
          clear hcv
          go_wp2
          go_meet
          exact ⟨⟨_, rfl⟩, rfl⟩
        · go_wp2
          go_meet
          exact ⟨⟨_, rfl⟩, rfl⟩
      case rest =>
        obtain ⟨⟨tk, rfl⟩, rfl⟩ := hcut
        clear htk hc0 hcell
        go_upto_if 41 with fail
        go_cut [12] (fun _ wx => ∃ (h' p' : Int), 0 ≤ h' ∧ h' ≤ M ∧ 0 ≤ p' ∧ p' ≤ M ∧ IsM wx b M h' p' ∧ IsX wx w3.heap.size h' (pst h' p') M ∧ Below w.heap.size w wx)
        case first =>
          cases tk
          · have bg := gvL_bd (n := n) h0
            have bp := gvP_bd (n := n) h0 h1 p0 p1
            obtain ⟨g0, g1⟩ := bg
            go_wp2_with fail
            refine (rgive_any M h _ n _ h0 h1 bm1 g0 g1).mono ?_
            rintro e w4 ⟨rfl, hA4⟩
            have hx4 := hx.below hA4 hx.lt
            have hm4 := Below.isM hA4 hm.lt hm
            have hB4 := hB.trans (hA4.mono hB.size)
            have y0 := hx4.c0
            have y1 := hx4.c1
            have y2 := hx4.c2
            have z0 := hx4.z 0
            have z1 := hx4.z 1
            have z2 := hx4.z 2
            have hs4 := hx4.lt
            clear x0 x1 x2
            go_wp2_with fail
            have hst := step3 hx4 hm4 hbn hbx hB4.size (h - gvL h n) (pst h p) M (.cells #[.int .i64 (h - gvL h n), .int .i64 (pst h p), .int .i64 M] 28)
            obtain ⟨hm5, hx5, hB5⟩ := hst
            refine (give_any b M h p n _ hm5 h0 h1 bm1).mono ?_
            rintro e w6 ⟨rfl, hm6, hb6⟩
            have hx6 := hx5.but hb6 hxn
            have hB6 := hB4.trans hB5
            clear hm5 hx5 hB5
            go_wp2
            go_meet
            have hb := HB.out
            exact ⟨h - gvL h n, gvP h p n, by omega, by omega, bp.1, bp.2, hm6, by rw [← pk_give h0]; exact hx6, hB6.trans (hb6.below (by omega))⟩
          · go_wp2_with fail
            refine (rtake_any M h _ n _ h0 h1 bm1).mono ?_
            rintro e w4 ⟨rfl, hA4⟩
            have hx4 := hx.below hA4 hx.lt
            have hm4 := Below.isM hA4 hm.lt hm
            have hB4 := hB.trans (hA4.mono hB.size)
            have y0 := hx4.c0
            have y1 := hx4.c1
            have y2 := hx4.c2
            have z0 := hx4.z 0
            have z1 := hx4.z 1
            have z2 := hx4.z 2
            have hs4 := hx4.lt
            clear x0 x1 x2
            go_wp2_with fail
            have hst := step3 hx4 hm4 hbn hbx hB4.size (tkH M h n) (rpk M h (pst h p) n) M (.cells #[.int .i64 (tkH M h n), .int .i64 (rpk M h (pst h p) n), .int .i64 M] 28)
            obtain ⟨hm5, hx5, hB5⟩ := hst
            refine (take_any b M h p n _ hm5 h0 h1 bm1).mono ?_
            rintro e w6 ⟨rfl, hm6, hb6⟩
            have hx6 := hx5.but hb6 hxn
            have hB6 := hB4.trans hB5
            clear hm5 hx5 hB5
            go_wp2
            go_meet
            have hb := HB.out
            have bt := tkH_bd (n := n) h0 h1
            exact ⟨tkH M h n, p, bt.1, bt.2, p0, p1, hm6, by rw [← pk_take]; exact hx6, hB6.trans (hb6.below (by omega))⟩
        case rest =>
          obtain ⟨h', p', h0', h1', p0', p1', hm7, hx7, hB7⟩ := hcut
          clear hm hx hB x0 x1 x2
          have G : Hid ((if h' ≤ p' then p' else h') = pst h' p') := rfl
          generalize pst h' p' = q at *
          have HX : Hid (IsX wc w3.heap.size h' q M) := hx7
          have x0 := hx7.c0
          have x1 := hx7.c1
          have x2 := hx7.c2
          go_upto_region 17 with fail
          go_quiet (first | (go_at_call 16; exact Calls.quiet_of_same (held_q b M h' p' _ (hm7.drewN _))) | (go_at_call 17; exact Calls.quiet_of_same (peak_q b M h' p' q _ (hm7.drewN _) G.out)) | (go_at_call 18; exact Calls.quiet_of (room_q b M h' p' _ (hm7.drewN _) h0' h1' bm1)))
          go_wp2
          go_roundw
          case rel => exact ⟨k + 1, h', p', by omega, by go_num, h0', h1', p0', p1', hm7.drewN _, by rw [show pst h' p' = q from G.out]; exact HX.out, hB7.trans ((But.drewN w3.heap.size _ _).below hbx)⟩
          case measure => simp [intOf]; omega
    · go_wp2
      go_ret
      exact ⟨rfl, hB⟩
set_option maxRecDepth 100000 in
set_option maxHeartbeats 4000000 in
theorem walk_none (a0 : Int) (a1 : Option Addr) (cap : Nat) (t : Value) (w : World) :
    Calls Try.prog 3 #[.int .i64 a0, .slice a1 0 cap, t] w fun e w' => e = .returned (.bool true) ∧ Below w.heap.size w w' := by
  go_enter Try.func3, Try.ntmps3
  go_wp2_with fail
  refine (new_m a0 _).mono ?_
  rintro e w1 ⟨b, rfl, hb, hm, hB⟩
  clear hb hm
  go_wp2_with fail
  refine (alive_any _).mono ?_
  rintro e w2 ⟨rfl, hA⟩
  have hB2 := hB.trans (hA.mono hB.size)
  clear hA hB
  go_wp2_with fail
  refine (rnew_any a0 _).mono ?_
  rintro e w3 ⟨rfl, hA⟩
  have hB3 := hB2.trans (hA.mono hB2.size)
  clear hA hB2
  go_wp2_with fail
  refine wp_loop_rounds 1 ?_
  rw [rounds_succ]
  go_wp2
  go_ret
  exact ⟨rfl, hB3.alloc hB3.size _⟩

/-- A list of numbers that came in. -/
def IsRow (k : IntKind) (w : World) (a : Option Addr) (len cap : Nat) (zs : List Int) : Prop :=
  (a = none ∧ len = 0 ∧ cap = 0 ∧ zs = []) ∨
  ∃ x, a = some x ∧ len ≤ cap ∧ cap ≤ maxLen ∧ zs.length = cap ∧ (∀ i, i < zs.length → w.cell? (x.add i) = some (.int k (zs.getD i 0))) ∧ ∀ n ∈ zs, (Lit.int k n).wf = true

/-- A list of bools that came in. -/
def IsBools (w : World) (a : Option Addr) (len : Nat) : Prop :=
  len ≤ maxLen ∧ ∀ i, i < len → ∃ b off v, a = some ⟨b, off, none⟩ ∧ w.cell? ⟨b, off + i, none⟩ = some (.bool v)

theorem open_bools {H : Type} {enc : TypeId × Value → H} {P : Program} {w : World} {base : Nat} {spare : Nat → Bool} {held : Bool} {t e : TypeId} {fuel : Nat} {a : Option Addr} {len cap : Nat} {x : DataW H × List MemPlace}
    (ht : P.underlying t = some (.slice e)) (he : P.underlying e = some .bool) (hc : P.cellsOf e = 1)
    (h : DataW.trod enc P w base spare held fuel t [.slice a len cap] = some x) : IsBools w a len := by
  rcases DataW.trod_slice ht h with ⟨h0, _⟩ | ⟨a', len', cap', elems, rest, n, _, hcs, _, hb, hl, hm, hlen, hel, _, _⟩
  · simp at h0
    obtain ⟨rfl, rfl, rfl⟩ := h0
    exact ⟨Nat.zero_le _, fun i hi => absurd hi (by omega)⟩
  · simp at hcs
    obtain ⟨rfl, rfl, rfl⟩ := hcs
    have key : ∀ i, i < len → ∃ v, w.cell? (a'.add i) = some (.bool v) := by
      intro i hi
      have k := hel i hi
      rw [hc, Nat.mul_one, List.getElem?_eq_getElem (by omega), Option.bind_eq_some_iff] at k
      obtain ⟨cs', hcs', hy⟩ := k
      obtain ⟨v, rfl, _⟩ := DataW.trod_bool he hy
      exact ⟨v, cell_of_cells?_one hcs'⟩
    refine ⟨Nat.le_trans hl hm, fun i hi => ?_⟩
    obtain ⟨v0, hv0⟩ := key 0 (by omega)
    obtain ⟨v, hv⟩ := key i hi
    obtain ⟨b, off, spot⟩ := a'
    have hspot : spot = none := by simpa [Addr.add] using World.cell?_spot hv0
    subst hspot
    exact ⟨b, off, v, rfl, by rw [← Go.WideShapes.add_plain]; exact hv⟩

theorem walk (a0 : Int) (a1 : Option Addr) (len1 cap1 : Nat) (z1 : List Int) (a2 : Option Addr) (len2 cap2 : Nat) (w : World) (w1 : IsRow .i64 w a1 len1 cap1 z1) (w2 : IsBools w a2 len2) :
    Calls Try.prog 3 #[.int .i64 a0, .slice a1 len1 cap1, .slice a2 len2 cap2] w fun e w' => e = .returned (.bool true) ∧ Below w.heap.size w w' := by
  rcases w1 with ⟨rfl, rfl, rfl, rfl⟩ | ⟨x, rfl, hl, hm, hz, hcell, hwz⟩
  · exact walk_none a0 none 0 _ w
  · rcases Nat.eq_zero_or_pos len1 with h | h
    · subst h; exact walk_none a0 (some x) cap1 _ w
    · obtain ⟨b, off, rfl, hc⟩ := ints_at hcell (by omega)
      exact walk_some a0 len1 cap1 b off a2 len2 cap2 z1 w (by omega) w2.1 (fun i hi => hc i (by omega)) h w2.2

set_option maxRecDepth 100000 in
theorem lifted (os : Os) (started : os.Started) (H : Type) (enc : TypeId × Value → H) :
    ReturnsInHanded {} Try.checked os 3 .any (Rows.meterPlaysSpec.pre6 enc Try.prog Try.f3 Rows.meterPlaysRow.domain false) (Rows.meterPlaysSpec.post enc Try.prog Try.f3 false true false false) := by
  refine returnsInHanded_of_change (C := Try.checked) own started (by kernel_rfl) Try.func3
    (ChangeSpec.witness6 (enc := enc) (C := Try.checked) false ⟨#[], #[.int .i64 0, .slice none 0 0, .slice none 0 0], []⟩ 8 (by kernel_rfl) (by kernel_rfl) (by kernel_rfl) (by kernel_rfl)) ?_
  intro W base args ds gs before hval0 hW hcnd _
  have hval : ∀ (j : Nat) t v, Try.f3.params[j]? = some t → args[j]? = some v → Value.okWide Try.prog W .any base t v := hval0
  have hW' := hW
  obtain ⟨p, q, hA0, hV, rfl, hfz, hnd⟩ := hW
  have hA : DataW.TrodAll enc Try.prog W 0 (fun _ => true) true Try.f3.params.toList args.toList ds p := hA0
  rw [Try.params3] at hA hval
  obtain ⟨v0, vs0, d0, ds0, p0, q0, hargs, rfl, rfl, h0, r0⟩ := trodAll_cons hA
  obtain ⟨v1, vs1, d1, ds1, p1, q1, rfl, rfl, rfl, h1, r1⟩ := trodAll_cons r0
  obtain ⟨v2, vs2, d2, ds2, p2, q2, rfl, rfl, rfl, h2, r2⟩ := trodAll_cons r1
  obtain ⟨rfl, rfl, rfl⟩ := trodAll_nil r2
  obtain rfl : args = #[v0, v1, v2] := by cases args; simp_all
  obtain ⟨rfl, rfl⟩ := trodVars_none hV
  obtain ⟨a0, rfl, rfl, rfl, w0⟩ := open_int Try.underlying3 (hval 0 3 v0 rfl rfl) h0
  obtain ⟨a1, len1, cap1, rfl⟩ := okWide_slice Try.underlying22 (hval 1 22 v1 rfl rfl)
  obtain ⟨a2, len2, cap2, rfl⟩ := okWide_slice Try.underlying23 (hval 2 23 v2 rfl rfl)
  have k1 := h1
  have k2 := h2
  have lt1 : ∀ x ∈ p1, x.block < W.heap.size := by obtain ⟨m, hm⟩ := k1; exact DataW.trod_lt m _ _ _ hm
  have lt2 : ∀ x ∈ p2, x.block < W.heap.size := by obtain ⟨m, hm⟩ := k2; exact DataW.trod_lt m _ _ _ hm
  obtain ⟨z1, w1⟩ : ∃ zs, IsRow .i64 W a1 len1 cap1 zs := by
    obtain ⟨fuel, hf⟩ := h1
    rcases open_ints Try.underlying22 Try.underlying3 (by kernel_rfl) hf with ⟨hcs, _⟩ | ⟨x, l, c, zs, hcs, _, hl, hm, hz, _, hcell, hwz⟩
    · simp [Value.cells] at hcs
      obtain ⟨rfl, rfl, rfl⟩ := hcs
      exact ⟨[], .inl ⟨rfl, rfl, rfl, rfl⟩⟩
    · simp [Value.cells] at hcs
      obtain ⟨rfl, rfl, rfl⟩ := hcs
      exact ⟨zs, .inr ⟨_, rfl, hl, hm, by simpa using hz, hcell, hwz⟩⟩
  have w2 : IsBools W a2 len2 := by
    obtain ⟨fuel, hf⟩ := h2
    exact open_bools (cap := cap2) Try.underlying23 Try.underlying4 (by kernel_rfl) hf
  clear hA0 hval0
  refine (walk a0 a1 len1 cap1 z1 a2 len2 cap2 W w1 w2).mono fun e W' ⟨he, bel⟩ => ?_
  subst he
  exact ⟨_, rfl, _, _, _, [], _, [], hW', trodAll_mk1 (shut_bool Try.underlying4 _), (trodAll_cons_mk (shut_int Try.underlying3 w0) (trodAll_cons_mk (Below.trod laidOut (by kernel_rfl) (of_decide_eq_true (by kernel_rfl)) k1 bel lt1) (trodAll_cons_mk (Below.trod laidOut (by kernel_rfl) (of_decide_eq_true (by kernel_rfl)) k2 bel lt2) trodAll_mk0))), rfl, bel.frame _, fun h => by cases h⟩

theorem over : Rows.meterPlaysRow.holds Try.pinned (OpenSpec.ofChange Rows.meterPlaysSpec) :=
  OpenClaim.holds_of_wide 3 Try.f3 rfl rfl rfl rfl rfl rfl rfl ⟨rfl, rfl, rfl, rfl, rfl⟩ rfl rfl rfl rfl rfl (by kernel_rfl) Try.func3 (by kernel_rfl)
    (of_decide_eq_true (by kernel_rfl)) (by unfold Func.isWrapper; first | (rw [if_pos (by decide +kernel)]; kernel_rfl) | (rw [if_neg (by decide +kernel)]; exact ⟨rfl, rfl⟩))
    (fun os started H enc _ => lifted os started H enc)

end Go.Proofs.Ytmmileafiainnaa.meterPlays
namespace Go.Proofs.Ytmmileafiainnaa
/-- The statement. -/
theorem meterPlays_holds : Rows.MeterPlaysSaid := meterPlays.over
#print axioms meterPlays_holds
end Go.Proofs.Ytmmileafiainnaa
