/- away and Take. -/
import Derived.Test.YtenajbefknlalaaRgD
namespace Go.Proofs.Ytenajbefknlalaa
open Go.RowKit
set_option linter.unusedVariables false

def frmOf (r : Nat) (w : World) : Nat := match w.cell? ⟨r, 3, none⟩ with | some (.int _ x) => x.toNat | _ => 0
/-- The first segment is read whole: it is let go. -/
theorem next_seg {w : World} {r mb : Nat} {segs : List Seg} {pad l junk : List UInt8} (h : RgX w r mb segs pad l junk) (hp : 64 ≤ pad.length) (hl : 0 < l.length) :
    ∃ s b pad' cur, segs = (s, b) :: cur ∧ pad = b ++ pad' ∧ b.length = 64 ∧ cur ≠ [] ∧ flat cur = pad' ++ l ++ junk ∧ IsS w s b (hd cur none) ∧ Chain w cur none := by
  cases segs with
  | nil =>
    have := congrArg List.length h.fl
    simp [flat] at this
    omega
  | cons x cur =>
    obtain ⟨s, b⟩ := x
    have hb : b.length = 64 := h.chain.1.1
    have hf := h.fl
    rw [flat_cons, List.append_assoc] at hf
    rcases List.append_eq_append_iff.1 hf with ⟨t, e1, e2⟩ | ⟨t, e1, e2⟩
    · refine ⟨s, b, t, cur, rfl, e1, hb, ?_, by rw [List.append_assoc]; exact e2, h.chain.1, h.chain.2⟩
      rintro rfl
      have := congrArg List.length e2
      have h3 : (flat ([] : List Seg)).length = 0 := rfl
      simp only [List.length_append] at this
      omega
    · have e1' : b = pad ++ t := e1
      have := congrArg List.length e1'
      rw [List.length_append] at this
      have ht : t = [] := List.eq_nil_of_length_eq_zero (by omega)
      subst ht
      rw [List.append_nil] at e1'
      rw [List.nil_append] at e2
      refine ⟨s, b, [], cur, rfl, by rw [List.append_nil, e1'], hb, ?_, by rw [List.nil_append]; exact e2.symm, h.chain.1, h.chain.2⟩
      rintro rfl
      have := congrArg List.length e2
      have h3 : (flat ([] : List Seg)).length = 0 := rfl
      simp only [List.length_append] at this
      omega
theorem lastB_cons (x : Seg) (cur : List Seg) (h : cur ≠ []) : lastB (x :: cur) = lastB cur := by
  cases cur with
  | nil => exact absurd rfl h
  | cons y cur => simp [lastB]

set_option maxRecDepth 100000 in
set_option maxHeartbeats 4000000 in
theorem away_any (r mb n : Nat) (S : Nat → Prop) (l : List UInt8) (m h p : Int) (w : World) (hR : Rg w r mb S l) (hM : IsM w mb m h p) (h0 : 0 ≤ h) (h1 : h ≤ m) (h2 : m ≤ 1099511627776) (hlh : (l.length : Int) ≤ h) (hn : n ≤ l.length) :
    Calls Try.prog 26 #[.pointer (some ⟨r, 0, none⟩), .int .i64 n] w fun e w' => e = .returned (.tuple #[]) ∧ Rg w' r mb S (l.drop n) ∧ IsM w' mb m (h - n) (gvP h p n) ∧ Kp (fun i => S i ∨ i = mb) w w' := by
  have c4 : w.cell? ⟨r, 4, none⟩ = some (.int .i64 l.length) := by obtain ⟨_, _, _, hX, _, _⟩ := hR; exact ring_cell hX.blk rfl
  by_cases he : n = l.length
  · subst he
    have HD : Hid (Calls Try.prog 14 #[.pointer (some ⟨r, 0, none⟩)] w fun e w' => e = .returned (.int .i64 l.length) ∧ Rg w' r mb S [] ∧ IsM w' mb m (h - l.length) (gvP h p l.length) ∧ Kp (fun i => S i ∨ i = mb) w w') := drop_any r mb S l m h p w hR hM h0 h1 h2 hlh
    clear hR hM
    go_enter Try.func26, Try.ntmps26
    go_wp2_with fail
    refine HD.out.mono ?_
    rintro e w1 ⟨rfl, R1, M1, K1⟩
    go_wp2
    refine bodyPost_ret (results_none rfl _ _ _) rfl ?_
    exact ⟨rfl, by rw [List.drop_length]; exact R1, M1, K1⟩
  · have hmS := hR.nomb
    have HH := give_any mb m h p n w hM h0 h1 h2
    have e1 : gvL h n = n := by unfold gvL; split <;> (try split) <;> omega
    rw [e1] at HH
    obtain ⟨segs, pad, junk, hX, hS, hF⟩ := hR
    have c0 : w.cell? ⟨r, 0, none⟩ = some (.pointer (some ⟨mb, 0, none⟩)) := ring_cell hX.blk rfl
    have hne : ¬ (n : Int) = (l.length : Int) := by omega
    have HG : Hid (Calls Try.prog 27 #[.pointer (some ⟨mb, 0, none⟩), .int .i64 (n : Int)] w fun e w' => e = .returned (.int .i64 n) ∧ IsM w' mb m (h - n) (gvP h p n) ∧ But mb w w') := HH
    clear HH e1
    obtain ⟨hp64, hj64⟩ : pad.length < 64 ∧ junk.length < 64 := by
      rcases hS with ⟨_, rfl, rfl, rfl⟩ | ⟨_, h1, h2⟩
      · simp
      · exact ⟨h1, h2⟩
    have hl40 : (l.length : Int) ≤ 1099511627776 := by omega
    go_enter Try.func26, Try.ntmps26
    go_wp2_with fail
    refine HG.out.mono ?_
    rintro e w1 ⟨rfl, M1, B1⟩
    have hmr : mb ≠ r := fun e => hmS (e ▸ hF.r)
    have hb1 : w1.heap[r]? = _ := (B1.block r (fun e => hmr e.symm)).trans hX.blk
    have d3 : w1.cell? ⟨r, 3, none⟩ = some (.int .i64 pad.length) := ring_cell hb1 rfl
    have d4 : w1.cell? ⟨r, 4, none⟩ = some (.int .i64 l.length) := ring_cell hb1 rfl
    have z3 : w1.frozen? ⟨r, 3, none⟩ = false := ring_z hb1
    have z4 : w1.frozen? ⟨r, 4, none⟩ = false := ring_z hb1
    have HX1 : Hid (∀ w2, w2 = (w1.setCell ⟨r, 4, none⟩ (.int .i64 ((l.length : Int) - (n : Int)))).setCell ⟨r, 3, none⟩ (.int .i64 ((pad.length : Int) + (n : Int))) →
        RgX w2 r mb segs (pad ++ l.take n) (l.drop n) junk ∧ IsM w2 mb m (h - n) (gvP h p n) ∧ Kp (fun i => S i ∨ i = mb) w w2 ∧ (∀ k, S k → k < w2.heap.size)) := by
      rintro w2 rfl
      have hfr : ∀ x ∈ segs, ((w1.setCell ⟨r, 4, none⟩ (.int .i64 ((l.length : Int) - (n : Int)))).setCell ⟨r, 3, none⟩ (.int .i64 ((pad.length : Int) + (n : Int)))).heap[x.1]? = w.heap[x.1]? := fun x hx => by
        have q1 : x.1 ≠ r := fun e => hX.nr (by rw [← e]; exact List.mem_map.2 ⟨x, hx, rfl⟩)
        have q2 : x.1 ≠ mb := fun e => hmS (e ▸ hF.segs x hx)
        rw [(But.set r 3 _ _).block _ q1, (But.set r 4 _ _).block _ q1, B1.block _ q2]
      refine ⟨⟨?_, chain_frame _ _ hfr hX.chain, hX.nd, hX.nr, ?_⟩, ?_, ?_, fun k hk => ?_⟩
      · rw [ring_set (ring_set hb1)]
        have a1 : ((pad ++ l.take n).length : Int) = (pad.length : Int) + (n : Int) := by rw [List.length_append, List.length_take]; omega
        have a2 : ((l.drop n).length : Int) = (l.length : Int) - (n : Int) := by rw [List.length_drop]; omega
        rw [a1, a2]; rfl
      · rw [hX.fl, List.append_assoc, List.append_assoc, List.append_assoc, ← List.append_assoc (l.take n), List.take_append_drop]
      · exact (But.set r 3 _ _).isM hmr ((But.set r 4 _ _).isM hmr M1)
      · exact ((Kp.ofBut B1 (.inr rfl)).then (Kp.set _ r 4 _ (.inl hF.r))).then (Kp.set _ r 3 _ (.inl hF.r))
      · rw [(But.set r 3 _ _).size, (But.set r 4 _ _).size, B1.size]; exact hF.lt k hk
    have hFr := hF.r
    have hFs := hF.segs
    have hln : 0 < (l.drop n).length := by rw [List.length_drop]; omega
    have hpn : ((pad ++ l.take n).length : Int) ≤ 1099511627876 := by rw [List.length_append, List.length_take]; omega
    clear hX hS hF hb1 hM M1 B1 HG c0 c4
    go_wp2_with fail
    clear d3 d4 z3 z4
    obtain ⟨X1, X2, X3, X4⟩ := HX1.out _ rfl
    clear HX1
    generalize (w1.setCell ⟨r, 4, none⟩ (.int .i64 ((l.length : Int) - (n : Int)))).setCell ⟨r, 3, none⟩ (.int .i64 ((pad.length : Int) + (n : Int))) = w2 at *
    obtain ⟨L, hLe⟩ : ∃ L, L = l.drop n := ⟨_, rfl⟩
    rw [← hLe] at X1 hln
    have HLe : Hid (L = l.drop n) := hLe
    clear hLe
    generalize pad ++ l.take n = P0 at *
    go_loopw [] (fun wr => ∃ (sg : List Seg) (pd : List UInt8), RgX wr r mb sg pd L junk ∧ (pd.length : Int) ≤ 1099511627876 ∧ (∀ x ∈ sg, S x.1) ∧ IsM wr mb m (h - n) (gvP h p n) ∧ Kp (fun i => S i ∨ i = mb) w wr ∧ (∀ k, S k → k < wr.heap.size)) (fun wr => frmOf r wr)
    case atStart => exact ⟨segs, P0, X1, hpn, hFs, X2, X3, X4⟩
    case round =>
      obtain ⟨sg, pd, Y1, hpd, hsg, Y2, Y3, Y4⟩ := hrel
      clear X1 X2 X3 X4
      have hb := Y1.blk
      have d3 : wr.cell? ⟨r, 3, none⟩ = some (.int .i64 pd.length) := ring_cell hb rfl
      by_cases hge : 64 ≤ pd.length
      · obtain ⟨s, b, pd', cur, rfl, rfl, hb64, hne, hfl, hIs, hch⟩ := next_seg Y1 hge hln
        have d1 : wr.cell? ⟨r, 1, none⟩ = some (.pointer (some ⟨s, 0, none⟩)) := ring_cell hb rfl
        have d64 := hIs.next
        have z1 : wr.frozen? ⟨r, 1, none⟩ = false := ring_z hb
        have z3 : wr.frozen? ⟨r, 3, none⟩ = false := ring_z hb
        have hsr : s ≠ r := fun e => Y1.nr (by rw [← e]; simp)
        have HW : Hid (∀ w2, w2 = (wr.setCell ⟨r, 1, none⟩ (pt (hd cur none))).setCell ⟨r, 3, none⟩ (.int .i64 (((b ++ pd').length : Int) - 64)) →
            RgX w2 r mb cur pd' L junk ∧ IsM w2 mb m (h - n) (gvP h p n) ∧ Kp (fun i => S i ∨ i = mb) w w2 ∧ (∀ k, S k → k < w2.heap.size) ∧ frmOf r w2 < frmOf r wr) := by
          rintro w2 rfl
          have a1 : ((b ++ pd').length : Int) - 64 = pd'.length := by rw [List.length_append]; omega
          have hbk : ((wr.setCell ⟨r, 1, none⟩ (pt (hd cur none))).setCell ⟨r, 3, none⟩ (.int .i64 (((b ++ pd').length : Int) - 64))).heap[r]? = some (.cells #[.pointer (some ⟨mb, 0, none⟩), pt (hd cur none), pt (lastB cur), .int .i64 pd'.length, .int .i64 L.length] 56) := by
            rw [ring_set (ring_set hb), a1, lastB_cons _ _ hne]; rfl
          refine ⟨⟨hbk, ?_, ?_, ?_, hfl⟩, ?_, ?_, fun k hk => ?_, ?_⟩
          · refine chain_frame _ _ (fun x hx => ?_) hch
            have q1 : x.1 ≠ r := fun e => Y1.nr (by rw [← e]; exact List.mem_map.2 ⟨x, .tail _ hx, rfl⟩)
            rw [(But.set r 3 _ _).block _ q1, (But.set r 1 _ _).block _ q1]
          · exact (List.nodup_cons.1 Y1.nd).2
          · exact fun c => Y1.nr (.tail _ c)
          · exact (But.set r 3 _ _).isM hmr ((But.set r 1 _ _).isM hmr Y2)
          · exact (Y3.then (Kp.set _ r 1 _ (.inl hFr))).then (Kp.set _ r 3 _ (.inl hFr))
          · rw [(But.set r 3 _ _).size, (But.set r 1 _ _).size]; exact Y4 k hk
          · have q1 : frmOf r wr = (b ++ pd').length := by unfold frmOf; rw [d3]; rfl
            have q2 : frmOf r ((wr.setCell ⟨r, 1, none⟩ (pt (hd cur none))).setCell ⟨r, 3, none⟩ (.int .i64 (((b ++ pd').length : Int) - 64))) = pd'.length := by unfold frmOf; rw [ring_cell hbk rfl]; rfl
            rw [q1, q2, List.length_append]
            omega
        have hs2 : ∀ x ∈ cur, S x.1 := fun x hx => hsg x (.tail _ hx)
        have hpd2 : (pd'.length : Int) ≤ 1099511627876 := by rw [List.length_append] at hpd; omega
        clear hb Y1 Y2 Y3 Y4 hIs hch hfl hsg
        obtain ⟨o, ho⟩ : ∃ o, pt (hd cur none) = .pointer o := ⟨_, rfl⟩
        rw [ho] at d64 HW
        clear ho
        have HP2 : Hid ((pd'.length : Int) ≤ 1099511627876) := hpd2
        clear hpd2
        have hge2 : (64 : Int) ≤ ((b ++ pd').length : Int) := by omega
        generalize (b ++ pd').length = bp at *
        go_wp2
        go_roundw
        case rel => exact ⟨cur, pd', (HW.out _ rfl).1, HP2.out, hs2, (HW.out _ rfl).2.1, (HW.out _ rfl).2.2.1, (HW.out _ rfl).2.2.2.1⟩
        case measure => exact (HW.out _ rfl).2.2.2.2
      · have hlt : ¬ (64 : Int) ≤ (pd.length : Int) := by omega
        have hRg : Hid (Rg wr r mb S L) := ⟨sg, pd, junk, Y1, .inr ⟨hln, by omega, hj64⟩, hFr, hsg, Y4, hmS⟩
        clear hb Y1
        go_wp2
        refine bodyPost_end (results_none rfl _ _ _) rfl ?_
        exact ⟨rfl, HLe.out ▸ hRg.out, Y2, Y3⟩

set_option maxHeartbeats 2000000 in
theorem take_any3 (r mb : Nat) (S : Nat → Prop) (l : List UInt8) (n m h p : Int) (w : World) (hR : Rg w r mb S l) (hM : IsM w mb m h p) (h0 : 0 ≤ h) (h1 : h ≤ m) (h2 : m ≤ 1099511627776) (hlh : (l.length : Int) ≤ h) :
    Calls Try.prog 11 #[.pointer (some ⟨r, 0, none⟩), .int .i64 n] w fun e w' => e = .returned (.slice (some ⟨w.heap.size, 0, none⟩) (clp n l.length) (clp n l.length)) ∧
      w'.heap[w.heap.size]? = some (.cells (rowB (l.take (clp n l.length))).toArray 5) ∧ Rg w' r mb S (l.drop (clp n l.length)) ∧ IsM w' mb m (h - clp n l.length) (gvP h p (clp n l.length)) ∧ Kp (fun i => S i ∨ i = mb) w w' := by
  have hN := clp_le n l.length
  have HP : Hid (Calls Try.prog 13 #[.pointer (some ⟨r, 0, none⟩), .int .i64 n] w fun e w' => e = .returned (.slice (some ⟨w.heap.size, 0, none⟩) (clp n l.length) (clp n l.length)) ∧
      w'.heap[w.heap.size]? = some (.cells (rowB (l.take (clp n l.length))).toArray 5) ∧ Below w.heap.size w w') := peek_any r mb S l n w hR (by omega)
  have hSl := hR.lt
  have hmS := hR.nomb
  have hml := hM.lt
  have HA := fun (w1 : World) hR1 hM1 => away_any r mb (clp n l.length) S l m h p w1 hR1 hM1 h0 h1 h2 hlh hN
  generalize clp n l.length = N at *
  go_enter Try.func11, Try.ntmps11
  go_wp2_with fail
  refine HP.out.mono ?_
  rintro e w1 ⟨rfl, hg1, B1⟩
  have hR1 : Rg w1 r mb S l := hR.keep (Kp.ofBelow (T := fun _ => False) B1) (fun _ _ c => c)
  have hM1 : IsM w1 mb m h p := Below.isM B1 hml hM
  have HA2 : Hid (Calls Try.prog 26 #[.pointer (some ⟨r, 0, none⟩), .int .i64 N] w1 fun e w' => e = .returned (.tuple #[]) ∧ Rg w' r mb S (l.drop N) ∧ IsM w' mb m (h - N) (gvP h p N) ∧ Kp (fun i => S i ∨ i = mb) w1 w') := HA w1 hR1 hM1
  clear HA HP hR hM hR1 hM1
  go_wp2_with fail
  refine HA2.out.mono ?_
  rintro e w2 ⟨rfl, R2, M2, K2⟩
  go_wp2
  go_ret
  refine ⟨rfl, (K2.block _ (heap_lt hg1) (fun c => ?_)).trans hg1, R2, M2, (Kp.ofBelow B1).then K2⟩
  rcases c with c | c
  · exact absurd (hSl _ c) (Nat.lt_irrefl _)
  · omega

theorem newr_any (mb : Nat) (w : World) (hmb : mb < w.heap.size) :
    Calls Try.prog 6 #[.pointer (some ⟨mb, 0, none⟩)] w fun e w' => e = .returned (.pointer (some ⟨w.heap.size, 0, none⟩)) ∧ Rg w' w.heap.size mb (fun i => i = w.heap.size) [] ∧ Below w.heap.size w w' := by
  have HW : Hid (Rg (w.alloc (.cells #[.pointer (some ⟨mb, 0, none⟩), .pointer none, .pointer none, .int .i64 0, .int .i64 0] 56)) w.heap.size mb (fun i => i = w.heap.size) []) :=
    ⟨[], [], [], ⟨new_at _ _, trivial, List.nodup_nil, by simp, rfl⟩, .inl ⟨rfl, rfl, rfl, rfl⟩, rfl, (fun x hx => by cases hx), (fun k hk => by subst hk; simp), fun e => by omega⟩
  go_enter Try.func6, Try.ntmps6
  go_wp2
  go_ret
  exact ⟨rfl, HW.out, (Below.refl _ _).alloc (Nat.le_refl _) _⟩
end Go.Proofs.Ytenajbefknlalaa
