/- Pool: forget, wake, Rest. -/
import Derived.Test.YtlaigjapnmgjeaaPoE
import Derived.Test.YtlaigjapnmgjeaaHlF
import Derived.Laws.EntriesVeiled
namespace Go.Proofs.Ytlaigjapnmgjeaa
open Go.RowKit
set_option linter.unusedVariables false

theorem pool_set3 {w : World} {pb mk : Nat} {most last : Int} {v v' : Value} (h : w.heap[pb]? = some (.cells #[.int .i64 most, .int .i64 last, .map (some mk), v] 78)) : (w.setCell ⟨pb, 3, none⟩ v').heap[pb]? = some (.cells #[.int .i64 most, .int .i64 last, .map (some mk), v'] 78) := by
  simp [World.setCell, Array.getElem?_modify, h]
theorem pool_set1 {w : World} {pb mk : Nat} {most last last' : Int} {v : Value} (h : w.heap[pb]? = some (.cells #[.int .i64 most, .int .i64 last, .map (some mk), v] 78)) : (w.setCell ⟨pb, 1, none⟩ (.int .i64 last')).heap[pb]? = some (.cells #[.int .i64 most, .int .i64 last', .map (some mk), v] 78) := by
  simp [World.setCell, Array.getElem?_modify, h]
/-- Behind a new row: its value is put into the pool. -/
theorem PL.setR {w w1 : World} {pb mk n N : Nat} {most last : Int} {q : HF} {rs rs' : List Int} {v v' : Value} (x : PL w pb mk n N most last q rs v) (hb : w1.heap[pb]? = w.heap[pb]?) (hm : w1.heap[mk]? = w.heap[mk]?) (hr : RO w1 v' rs') : PL (w1.setCell ⟨pb, 3, none⟩ v') pb mk n N most last q rs' v' := by
  have hbk := hb.trans x.bk
  have hne : v'.ownBlock ≠ some pb := fun e => by
    obtain ⟨cur, h⟩ := hr.blk pb e
    rw [hbk] at h
    injection h with h
    injection h with _ h _
    exact absurd h (by decide)
  exact ⟨pool_set3 hbk, x.hm.move ((Below.heap_setCell _ _ _ _ (fun e => x.nm e.symm)).trans hm), hr.move fun g hg => Below.heap_setCell _ _ _ _ (fun e : g = pb => hne (by rw [← e]; exact hg)), x.qs⟩
theorem PX.set {pb mk : Nat} {v v' : Value} {w w' : World} (h : PX pb mk v v' w w') (o : Nat) (x : Value) : PX pb mk v v' w (w'.setCell ⟨pb, o, none⟩ x) :=
  ⟨h.os, h.tape, h.output, by simpa [World.setCell] using h.size, fun k hk a b c => (Below.heap_setCell _ _ _ _ a).trans (h.block k hk a b c), h.own⟩
set_option maxRecDepth 100000 in
set_option maxHeartbeats 1000000 in
theorem plforget_any (h : Int) (pb mk n N : Nat) (most last : Int) (q : HF) (rs : List Int) (v : Value) (w : World) (H : PL w pb mk n N most last q rs v) (hl : rs.length ≤ 1000000) : Calls Try.prog 38 #[.pointer (some ⟨pb, 0, none⟩), .int .i64 h] w fun e w' => e = .returned (.tuple #[]) ∧ ∃ v', PL w' pb mk n N most last q (rs.filter (butH h)) v' ∧ PX pb mk v v' w w' := by
  have B1 : Below w.heap.size w (w.alloc (.cells #[.int .i64 h] 3)) := (Below.refl _ _).alloc (Nat.le_refl _) _
  have tb := tblk_new w (.cells #[.int .i64 h] 3)
  have H1 := H.keep B1
  have c3 := H1.c3
  rcases H.ro with ⟨hv, hr⟩ | ⟨g, c, hv, hN, hc⟩
  · subst hv hr
    have HD := hidE (delnil_any h w.heap.size (w.alloc (.cells #[.int .i64 h] 3)))
    have z3 := H1.z 3
    have HR : Hid (PL ((w.alloc (.cells #[.int .i64 h] 3)).setCell ⟨pb, 3, none⟩ (.slice none 0 0)) pb mk n N most last q [] (.slice none 0 0) ∧ PX pb mk (.slice none 0 0) (.slice none 0 0) w ((w.alloc (.cells #[.int .i64 h] 3)).setCell ⟨pb, 3, none⟩ (.slice none 0 0))) := ⟨H1.setR rfl rfl (.inl ⟨rfl, rfl⟩), ((PX.refl _ _ _ _).bel B1).set _ _⟩
    clear H H1 B1 tb
    go_enter Try.func38, Try.ntmps38
    go_wp2_with fail
    refine HD.out.mono ?_
    rintro e w2 ⟨rfl, rfl⟩
    clear HD
    go_wp2
    refine bodyPost_end (results_none rfl _ _ _) rfl ?_
    exact ⟨rfl, _, HR.out.1, HR.out.2⟩
  · subst hv
    have hgl : g < w.heap.size := hN.lt
    have N1 := hN.below B1 hgl
    have hng := H.ng
    have hgp : pb ≠ g := fun e => hng.1 (by rw [e]; rfl)
    have hgm : mk ≠ g := fun e => hng.2 (by rw [e]; rfl)
    have HD := hidE (delints_any h w.heap.size rs g c (w.alloc (.cells #[.int .i64 h] 3)) hl N1 (tblk_cell tb rfl) (by omega) (by unfold maxLen at hc; omega))
    have HH := hidE H
    have HB1 := hidE B1
    have hpl := H.lt
    have hml := H.hm.lt
    have hsz : (w.alloc (.cells #[.int .i64 h] 3)).heap.size = w.heap.size + 1 := by simp
    have HSZ := hidE hsz
    clear H H1 B1 tb hN N1 hng hsz
    go_enter Try.func38, Try.ntmps38
    go_wp2_with fail
    refine HD.out.mono ?_
    rintro e w2 ⟨rfl, N2, X2⟩
    have hb2 : w2.heap[pb]? = w.heap[pb]? := (X2.block pb (by rw [HSZ.out]; omega) hgp).trans (HB1.out.block pb hpl)
    have hm2 : w2.heap[mk]? = w.heap[mk]? := (X2.block mk (by rw [HSZ.out]; omega) hgm).trans (HB1.out.block mk hml)
    have z3 : w2.frozen? ⟨pb, 3, none⟩ = false := by simp [World.frozen?, hb2, HH.out.bk]
    have d3 : w2.cell? ⟨pb, 3, none⟩ = some (.slice (some ⟨g, 0, none⟩) rs.length c) := tblk_cell (hb2.trans HH.out.bk) rfl
    have X3 : PX pb mk (.slice (some ⟨g, 0, none⟩) rs.length c) (.slice (some ⟨g, 0, none⟩) (rs.filter (butH h)).length c) w w2 := ⟨X2.os.trans HB1.out.os, X2.tape.trans HB1.out.tape, X2.output.trans HB1.out.output, Nat.le_trans HB1.out.size X2.size, fun k hk _ _ hn => (X2.block k (by rw [HSZ.out]; omega) (fun e => hn (by rw [e]; rfl))).trans (HB1.out.block k hk), .inl rfl⟩
    have HR : Hid (PL (w2.setCell ⟨pb, 3, none⟩ (.slice (some ⟨g, 0, none⟩) (rs.filter (butH h)).length c)) pb mk n N most last q (rs.filter (butH h)) (.slice (some ⟨g, 0, none⟩) (rs.filter (butH h)).length c) ∧ PX pb mk (.slice (some ⟨g, 0, none⟩) rs.length c) (.slice (some ⟨g, 0, none⟩) (rs.filter (butH h)).length c) w (w2.setCell ⟨pb, 3, none⟩ (.slice (some ⟨g, 0, none⟩) (rs.filter (butH h)).length c))) :=
      ⟨HH.out.setR hb2 hm2 (.inr ⟨g, c, rfl, N2, hc⟩), X3.set _ _⟩
    clear HD N2 X2 X3 HH HB1 hb2 hm2 HSZ
    generalize (rs.filter (butH h)).length = m at *
    go_wp2
    refine bodyPost_end (results_none rfl _ _ _) rfl ?_
    exact ⟨rfl, _, HR.out.1, HR.out.2⟩
set_option maxHeartbeats 400000 in
theorem plwake_any (h : Int) (x1 : KS) (pb mk n N : Nat) (most last : Int) (q : HF) (rs : List Int) (v : Value) (w : World) (H : PL w pb mk n N most last q rs v) (hh : InR h) (hq : q h = some (x1, 3)) (hn : n ≤ 1000000) (hl : rs.length ≤ 1000000) : Calls Try.prog 34 #[.pointer (some ⟨pb, 0, none⟩), .int .i64 h] w fun e w' => e = .returned (.tuple #[]) ∧ ∃ v', PL w' pb mk (n + 1) N most last (updI q h (some (x1, 2))) (rs.filter (butH h)) v' ∧ PX pb mk v v' w w' := by
  have HMV := hidE (plmove_yes h 3 2 x1 pb mk n N most last q rs v w H hh hq hn)
  clear H hq
  go_enter Try.func34, Try.ntmps34
  go_wp2_with fail
  refine HMV.out.mono ?_
  rintro e w1 ⟨rfl, H1, X1⟩
  have HF := hidE (plforget_any h pb mk (n + 1) N most last _ rs v w1 H1 hl)
  have HX1 := hidE X1
  clear HMV H1 X1
  go_wp2_with fail
  refine HF.out.mono ?_
  rintro e w2 ⟨rfl, v', H2, X2⟩
  have HR : Hid (PL w2 pb mk (n + 1) N most last (updI q h (some (x1, 2))) (rs.filter (butH h)) v' ∧ PX pb mk v v' w w2) := ⟨H2, HX1.out.trans X2⟩
  clear HF H2 X2 HX1
  go_wp2
  refine bodyPost_end (results_none rfl _ _ _) rfl ?_
  exact ⟨rfl, v', HR.out.1, HR.out.2⟩
theorem infoI : (Try.prog.info? 3).map (fun i => (i.zero, i.size, i.bytes)) = some (some (.int .i64 0), 1, 8) := by kernel_rfl
/-- A number appended to the row. -/
theorem ro_append {w : World} {v : Value} {rs : List Int} (h : RO w v rs) (x : Int) (hl : rs.length ≤ 1000000) :
    ∃ v' w', (Builtin.append_ #[76, 76] 76 #[v, .slice (some ⟨w.heap.size, 0, none⟩) 1 1]).run Try.prog (w.alloc (.cells #[.int .i64 x] 3)) = .ok v' w' ∧ RO w' v' (rs ++ [x]) ∧ (∃ a c, v' = .slice a (rs.length + 1) c) ∧ w.heap.size ≤ w'.heap.size ∧ w'.os = w.os ∧ w'.tape = w.tape ∧ w'.output = w.output ∧ (∀ k, k < w.heap.size → v.ownBlock ≠ some k → w'.heap[k]? = w.heap[k]?) ∧ (v'.ownBlock = v.ownBlock ∨ ∃ g, v'.ownBlock = some g ∧ w.heap.size ≤ g) := by
  obtain ⟨i, hi, hz0, hz1, hz2⟩ := info_parts infoI
  have BA : Below w.heap.size w (w.alloc (.cells #[.int .i64 x] 3)) := (Below.refl _ _).alloc (Nat.le_refl _) _
  have hA : (w.alloc (.cells #[.int .i64 x] 3)).ownsRow 0 3 1 v rs.length (rs.map (Value.int .i64)) := by
    rcases h with ⟨hv, hr⟩ | ⟨g, c, hv, ⟨cur, h1, h2, h3, h4⟩, hc⟩
    · subst hv hr; exact World.ownsRow_nil _ _ _ _
    · subst hv
      have hgl := (Array.getElem?_eq_some_iff.1 h1).1
      refine ⟨by simp, .inr ⟨g, c, cur, rfl, Nat.zero_le _, (BA.block g hgl).trans h1, h3, hc, by omega, ?_⟩⟩
      apply List.ext_getElem?
      intro j
      rw [Nat.mul_one]
      by_cases hj : j < rs.length
      · rw [List.getElem?_take_of_lt hj, Array.getElem?_toList, h4 j hj, List.getElem?_map, List.getElem?_eq_getElem hj, List.getD_eq_getElem?_getD, List.getElem?_eq_getElem hj]
        rfl
      · rw [List.getElem?_eq_none (by rw [List.length_take]; omega), List.getElem?_eq_none (by rw [List.length_map]; omega)]
  obtain ⟨v', w', hr, q1, q2, q3, q4⟩ := run_append_own_at (P := Try.prog) _ 0 76 76 3 i (.int .i64 0) 1 8 Try.underlying76 hi hz0 hz1 hz2 rfl (by decide) v rs.length (rs.map (Value.int .i64)) hA ⟨w.heap.size, 0, none⟩ 1 1 [.int .i64 x] rfl (cellS_new w (.int .i64 x) 3) (by intro u hu; rw [List.mem_singleton.1 hu]; rfl) (by unfold maxLen; omega) (by omega) (Nat.zero_le _)
  have q1' : w'.ownsRow 0 3 1 v' (rs.length + 1) ((rs ++ [x]).map (Value.int .i64)) := by rw [List.map_append]; exact q1
  obtain ⟨y1, ⟨y2, y3⟩ | ⟨g', c', cur', hv', hg', y4, y5, y6, y7, y8⟩⟩ := id q1'
  · omega
  · refine ⟨v', w', hr, .inr ⟨g', c', by rw [hv', List.length_append]; rfl, ⟨cur', y4, by omega, by rw [List.length_append]; exact y5, fun j hj => ?_⟩, y6⟩, ⟨_, _, hv'⟩, Nat.le_trans BA.size q2.size, q2.os.trans BA.os, q2.tape.trans BA.tape, q2.output.trans BA.output, fun k hk hn => (q2.block k (by have := BA.size; omega) (fun e => hn e.symm)).trans (BA.block k hk), ?_⟩
    · have hj' : j < rs.length + 1 := by rw [List.length_append] at hj; exact hj
      have e : cur'[j]? = ((rs ++ [x]).map (Value.int .i64))[j]? := by rw [← y8, Nat.mul_one, List.getElem?_take_of_lt hj', Array.getElem?_toList]
      rw [e, List.getElem?_map, List.getElem?_eq_getElem hj, List.getD_eq_getElem?_getD, List.getElem?_eq_getElem hj]
      rfl
    · rcases q4 with q | q
      · exact .inl q
      · exact .inr ⟨_, q, BA.size⟩
end Go.Proofs.Ytlaigjapnmgjeaa
