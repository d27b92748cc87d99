/- Texts that the proof leans on, one behind the other: RqE -/
import Derived.Test.YtkdnckkdofoaoaaGreatDoorKr
import Derived.Test.YtkdnckkdofoaoaaGreatDoorKo
import Derived.Test.YtkdnckkdofoaoaaGreatDoorKv
import Derived.Test.YtkdnckkdofoaoaaGreatDoorKn
import Derived.Test.YtkdnckkdofoaoaaGreatDoorKg
/- The reference's opened. -/
namespace Go.Proofs.YtkdnckkdofoaoaaGreatDoor
open Go.ChangeShapes Go.WideShapes Go.ChangeAt Go.RowKit
set_option linter.unusedVariables false

/-- A head whose first line is s. -/
def openK (q : Rq) (F : Fs × Int) (n : Nat) (code : Int) : Hd :=
  if q.code = 0 then (if F.2 = 0 then (if n = 0 then hdNo code else if headSt F.1 q.minor = 0 then ⟨q.method, q.target, q.minor, F.1, n, 0⟩ else hdNo (headSt F.1 q.minor)) else hdNo F.2) else hdNo q.code
def openQ (x : List ByteArray × Nat × Int) : Hd := match x.1 with
  | [] => hdNo x.2.2
  | s :: ss => openK (rqP s) (fldsP ss 40) x.2.1 x.2.2
theorem headQ_open (b : List UInt8) : headQ b = openQ (rlines b) := by
  obtain ⟨h1, h2⟩ := head_lines rqSt b
  unfold headQ
  rw [h1]
  generalize rlines b = X at *
  obtain ⟨ss, n, code⟩ := X
  cases ss with
  | nil => rfl
  | cons s ss =>
    have e1 := h2 s ss rfl
    rw [e1]
    have e2 : sayP rqSt (s :: ss, n, code) = if rqSt s = 0 then saidP (fldsP ss 40) n code else ([], 0, rqSt s) := rfl
    have e3 : openQ (s :: ss, n, code) = openK (rqP s) (fldsP ss 40) n code := rfl
    rw [e2, e3]
    generalize fldsP ss 40 = F
    obtain ⟨F1, F2⟩ := F
    unfold openK rqSt
    by_cases q0 : (rqP s).code = 0
    · rw [if_pos q0, if_pos q0]
      unfold saidP
      by_cases q1 : F2 = 0
      · simp only [if_pos q1]
        by_cases q2 : n = 0
        · simp [q2]
        · simp [q2]
      · simp only [if_neg q1]
        rfl
    · rw [if_neg q0, if_neg q0]
      rfl
def opS (H : Hd) : Int × Bool := if H.n = 0 then (0, false) else ((reqF H.fs H.minor).1, (reqF H.fs H.minor).2.1)
def opV (H : Hd) (fa : Option Addr) (fc : Nat) : Value := .tuple #[.agg #[.string H.m, .string H.t, .int .i64 H.minor, .slice fa H.fs.length fc, .slice none 0 0], .int .i64 (H.n : Nat), .int .i64 (opS H).1, .bool (opS H).2, .int .i64 H.st]
def OpenR (w : World) (H : Hd) (e : Ending) (w' : World) : Prop := ∃ fa fc, e = .returned (opV H fa fc) ∧ OwnF w.heap.size w' (.slice fa H.fs.length fc) H.fs ∧ Below w.heap.size w w'
theorem openNo {w w' : World} {H : Hd} {st : Int} (hB : Below w.heap.size w w') (hH : H = hdNo st) : OpenR w H (.returned (.tuple #[.agg #[.string ⟨#[]⟩, .string ⟨#[]⟩, .int .i64 0, .slice none 0 0, .slice none 0 0], .int .i64 0, .int .i64 0, .bool false, .int .i64 st])) w' := by
  subst hH
  exact ⟨none, 0, rfl, OwnF.nil _ _, hB⟩
theorem Txs.tail {B : Nat} {w : World} {a a' : Option Addr} {n c : Nat} {x : ByteArray} {xs : List ByteArray} (h : Txs B w (.slice a n c) (x :: xs)) (ha : 1 < c → a' = a.map (fun p => p.add 1)) : Txs B w (.slice a' (n - 1) (c - 1)) xs := by
  obtain ⟨b, d, e, hnil, h1, h2, h3⟩ := h
  obtain ⟨rfl, hn, rfl⟩ := slice_inj e
  subst hn
  rw [List.length_cons] at h1
  refine ⟨a', c - 1, ?_, ?_, by omega, by omega, ?_⟩
  · rw [List.length_cons, Nat.add_sub_cancel]
  · intro k
    by_cases hc : 1 < c
    · have := ha hc
      rw [k] at this
      cases a with
      | none => have := hnil rfl; omega
      | some p => cases this
    · omega
  · intro hp
    obtain ⟨g, off, rfl, hg, hc⟩ := h3 (by rw [List.length_cons]; omega)
    refine ⟨g, off + 1, ?_, hg, fun j hj => ?_⟩
    · rw [ha (by omega)]
      show some ((⟨g, off, none⟩ : Addr).add 1) = _
      rw [addr_add]
    · have k := hc (j + 1) (by rw [List.length_cons]; omega)
      rw [show off + 1 + j = off + (j + 1) by omega]
      exact k

set_option maxRecDepth 100000 in
set_option maxHeartbeats 8000000 in
theorem ropened_any (b : List UInt8) (kb c : Nat) (a : Option Addr) (w : World) (hs : Src w kb (.slice a b.length c) b) (hk : 0 < b.length → kb < w.heap.size) :
    Calls Tryz.prog 32 #[.slice a b.length c] w (OpenR w (headQ b)) := by
  have U0 : Below w.heap.size w (w.alloc (.cells #[.string ⟨#[]⟩, .string ⟨#[]⟩, .int .i64 0, .slice none 0 0, .slice none 0 0] 26)) := (Below.refl _ _).alloc (Nat.le_refl _) _
  have e1 : (w.alloc (.cells #[.string ⟨#[]⟩, .string ⟨#[]⟩, .int .i64 0, .slice none 0 0, .slice none 0 0] 26)).heap.size = w.heap.size + 1 := by simp
  have HLN : Hid (Calls Tryz.prog 46 #[.slice a b.length c] (w.alloc (.cells #[.string ⟨#[]⟩, .string ⟨#[]⟩, .int .i64 0, .slice none 0 0, .slice none 0 0] 26)) fun e w' => ∃ ao cv, e = .returned (.tuple #[.slice ao (rlines b).1.length cv, .int .i64 ((rlines b).2.1 : Nat), .int .i64 (rlines b).2.2]) ∧ OwnT (w.heap.size + 1) w' (.slice ao (rlines b).1.length cv) (rlines b).1 ∧ Below w.heap.size w w' ∧ w'.heap[w.heap.size]? = some (.cells #[.string ⟨#[]⟩, .string ⟨#[]⟩, .int .i64 0, .slice none 0 0, .slice none 0 0] 26) ∧ w.heap.size + 1 ≤ w'.heap.size) := by
    refine (rlines_any b kb c a _ (hs.keep hk U0) (fun q => Nat.lt_of_lt_of_le (hk q) U0.size)).mono ?_
    rintro e w' ⟨ao, cv, he, hO, hB⟩
    rw [e1] at hO
    have hsz := hB.size
    rw [e1] at hsz
    exact ⟨ao, cv, he, hO, U0.trans (hB.mono (by simp)), tblk_below (tblk_new _ _) hB, hsz⟩
  have HQ : Hid (headQ b = openQ (rlines b)) := headQ_open b
  have HSZ : Hid (∀ s ∈ (rlines b).1, s.size ≤ 2048) := (lnL_sizes _ _ _ _ (by rw [List.length_take]; omega)).1
  have HNL : Hid ((rlines b).2.1 ≤ 2048) := by
    rw [Hid]
    refine Nat.le_trans (lnL_sizes (fullB b) 2050 false (b.take 2048) (by rw [List.length_take]; omega)).2.2 ?_
    rw [List.length_take]; omega
  clear hs hk U0 e1
  generalize headQ b = H at *
  generalize rlines b = X at *
  obtain ⟨ss, n, code⟩ := X
  simp only at HLN HSZ HNL
  generalize b.length = bl at *
  cases ss with
  | nil =>
    have HE : Hid (H = hdNo code) := HQ.out
    have hl0 : ([] : List ByteArray).length = 0 := rfl
    rw [hl0] at HLN
    clear HQ HSZ hl0 HNL
    go_enter Tryz.func32, Tryz.ntmps32
    go_wp2_with fail
    refine HLN.out.mono ?_
    rintro e w1 ⟨ao, cv, rfl, O1, D1, hg1, hs1⟩
    clear HLN O1 hs1
    have HBZ : Hid _ := five_below (.string ⟨#[]⟩) (.string ⟨#[]⟩) (.int .i64 0) (.slice none 0 0) (.slice none 0 0) D1 (Nat.le_refl _)
    unfold five at HBZ
    have HW := five_cells hg1 (.string ⟨#[]⟩) (.string ⟨#[]⟩) (.int .i64 0) (.slice none 0 0) (.slice none 0 0)
    have a0 := tblk_cell (i := 0) hg1 rfl
    have z0 := lblk_z (i := 0) hg1
    have a1 := tblk_cell (i := 1) hg1 rfl
    have z1 := lblk_z (i := 1) hg1
    have a2 := tblk_cell (i := 2) hg1 rfl
    have z2 := lblk_z (i := 2) hg1
    have a3 := tblk_cell (i := 3) hg1 rfl
    have z3 := lblk_z (i := 3) hg1
    have a4 := tblk_cell (i := 4) hg1 rfl
    have z4 := lblk_z (i := 4) hg1
    have r0 := tblk_cell (i := 0) HW rfl
    have r1 := tblk_cell (i := 1) HW rfl
    have r2 := tblk_cell (i := 2) HW rfl
    have r3 := tblk_cell (i := 3) HW rfl
    have r4 := tblk_cell (i := 4) HW rfl
    unfold five at r0 r1 r2 r3 r4
    clear HW hg1 D1
    go_wp2
    refine bodyPost_ret (v := .tuple #[.agg #[.string ⟨#[]⟩, .string ⟨#[]⟩, .int .i64 0, .slice none 0 0, .slice none 0 0], .int .i64 0, .int .i64 0, .bool false, .int .i64 code]) (by simp [results, Tryz.results32, go_sem, r0, r1, r2, r3, r4]) rfl ?_
    exact openNo HBZ.out HE.out

  | cons s ss =>
    have hq0 : openQ (s :: ss, n, code) = openK (rqP s) (fldsP ss 40) n code := rfl
    rw [hq0] at HQ
    have hss : s.size ≤ 2048 := HSZ.out s (List.mem_cons_self ..)
    have HS2 : Hid (∀ x ∈ ss, x.size ≤ 2048) := fun x hx => HSZ.out x (List.mem_cons_of_mem _ hx)
    have HRQ : Hid (∀ W, Calls Tryz.prog 64 #[.string s] W fun e w' => e = .returned (.tuple #[rqV (rqP s), .int .i64 (rqP s).code]) ∧ Below W.heap.size W w') := fun W => by
      rw [req_ref]
      exact rreq_any s W (by omega)
    have HFO : Hid ((fldsP ss 40).1.length ≤ 40 ∧ FBd 1000 (fldsP ss 40).1) := ⟨(fldsP_ok ss 40).1, (fldsP_ok ss 40).2.1⟩
    have HFF : Hid (∀ (W : World) (x : Option Addr) (d : Nat), Txs W.heap.size W (.slice x ss.length d) ss → Calls Tryz.prog 48 #[.slice x ss.length d] W fun e w' => ∃ ao cv, e = .returned (.tuple #[.slice ao (fldsP ss 40).1.length cv, .int .i64 (fldsP ss 40).2]) ∧ OwnF W.heap.size w' (.slice ao (fldsP ss 40).1.length cv) (fldsP ss 40).1 ∧ Below W.heap.size W w') := fun W x d h => rfields_any ss x d W h HS2.out
    have hl1 : (s :: ss).length = ss.length + 1 := rfl
    rw [hl1] at HLN
    clear hq0 HSZ hss HS2 hl1
    generalize fldsP ss 40 = F at *
    obtain ⟨fs, sec⟩ := F
    simp only at HFO HFF
    generalize rqP s = q at *
    obtain ⟨qm, qt, qn, qc⟩ := q
    unfold rqV at HRQ
    simp only at HRQ
    have hL1 : ¬ ((ss.length + 1 : Nat) : Int) = 0 := by omega
    have hL2 : (((ss.length + 1 : Nat) : Int) == 0) = false := by simpa using hL1
    generalize hsl : ss.length = sl at *
    have HSL : Hid (ss.length = sl) := hsl
    clear hsl
    go_enter Tryz.func32, Tryz.ntmps32
    go_wp2_with fail
    refine HLN.out.mono ?_
    rintro e w1 ⟨ao, cv, rfl, O1, D1, hg1, hs1⟩
    clear HLN
    have T1 := O1.txs
    have hlen1 := T1.len
    obtain ⟨a', c', e', hnil, q1, q2, q3⟩ := id T1
    obtain ⟨rfl, hx1, rfl⟩ := slice_inj e'
    clear hx1
    obtain ⟨g, off, rfl, hg, hc⟩ := q3 (by rw [List.length_cons]; omega)
    have c0 : w1.cell? ⟨g, off, none⟩ = some (.string s) := hc 0 (by rw [List.length_cons]; omega)
    have hcv1 : sl + 1 ≤ cv := hlen1.2.1
    have hcv2 : cv ≤ maxLen := hlen1.2.2
    unfold maxLen at hcv2
    have HT1 : Hid (Txs w1.heap.size w1 (.slice (some ⟨g, off, none⟩) (sl + 1) cv) (s :: ss)) := T1
    clear T1 hlen1 e' hnil q1 q2 q3 hc O1
    go_wp2_with fail
    refine (HRQ.out _).mono ?_
    rintro e w2 ⟨rfl, B2⟩
    have D2 := D1.trans (B2.mono D1.size)
    have hg2 := tblk_below hg1 B2
    have T2 : Hid (Txs w1.heap.size w2 (.slice (some ⟨g, off, none⟩) (sl + 1) cv) (s :: ss)) := HT1.out.keep B2
    have hsz2 : w1.heap.size ≤ w2.heap.size := B2.size
    have D3 := D2.alloc D2.size (.cells #[.string qm, .string qt, .int .i64 qn, .slice none 0 0, .slice none 0 0] 26)
    have U3 : Below w2.heap.size w2 (w2.alloc (.cells #[.string qm, .string qt, .int .i64 qn, .slice none 0 0, .slice none 0 0] 26)) := (Below.refl _ _).alloc (Nat.le_refl _) _
    have hg3 := tblk_below hg2 U3
    have hr3 := tblk_new w2 (.cells #[.string qm, .string qt, .int .i64 qn, .slice none 0 0, .slice none 0 0] 26)
    have T3 : Hid (Txs (w2.heap.size + 1) (w2.alloc (.cells #[.string qm, .string qt, .int .i64 qn, .slice none 0 0, .slice none 0 0] 26)) (.slice (some ⟨g, off, none⟩) (sl + 1) cv) (s :: ss)) := (T2.out.keep (U3.mono hsz2)).mono (by omega)
    have hsp : w.heap.size < w2.heap.size := by omega
    clear HRQ D1 B2 D2 hg1 hg2 T2 HT1 U3 c0 hs1 hg hsz2
    by_cases hqc : qc = 0
    · subst hqc
      have HSZ3 : Hid ((w2.alloc (.cells #[.string qm, .string qt, .int .i64 qn, .slice none 0 0, .slice none 0 0] 26)).heap.size = w2.heap.size + 1) := by rw [Hid]; simp
      have hwp : w2.heap.size < (w2.alloc (.cells #[.string qm, .string qt, .int .i64 qn, .slice none 0 0, .slice none 0 0] 26)).heap.size := by simp
      go_wp2_with fail
      all_goals
        generalize w2.alloc (.cells #[.string qm, .string qt, .int .i64 qn, .slice none 0 0, .slice none 0 0] 26) = w3 at *
        generalize hpd : w2.heap.size = p at *
        have HTT : Hid (∀ x : Option Addr, (1 < cv → x = some ⟨g, off + 1, none⟩) → Txs w3.heap.size w3 (.slice x sl (cv - 1)) ss) := fun x hx => by
          have k := T3.out.tail (a' := x) (fun h => by rw [hx h]; show _ = some ((⟨g, off, none⟩ : Addr).add 1); rw [addr_add])
          rw [HSZ3.out]
          exact k
        have HF3 : Hid (∀ v : Value, Txs w3.heap.size w3 v ss → Calls Tryz.prog 48 #[v] w3 fun e w' => ∃ ao cv, e = .returned (.tuple #[.slice ao fs.length cv, .int .i64 sec]) ∧ OwnF w3.heap.size w' (.slice ao fs.length cv) fs ∧ Below w3.heap.size w3 w') := fun v hv => by
          obtain ⟨x, d, rfl, _⟩ := id hv
          have k := HFF.out w3 x d
          rw [HSL.out] at hv ⊢
          exact k hv
        clear hpd T3 HFF HSZ3
        refine (HF3.out _ (by first | exact HTT.out _ (fun _ => rfl) | (have hx := HTT.out (some ⟨g, off, none⟩) (fun h => by omega); rw [show cv - 1 = 0 by omega] at hx; exact hx))).mono ?_
        rintro e w4 ⟨fa, fc, rfl, O4, B4⟩
        have D4 := D3.trans (B4.mono D3.size)
        have hg4 := tblk_below hg3 B4
        have hr4 := tblk_below hr3 B4
        clear D3 hg3 hr3 B4 HF3 HTT HSL hcv1 hcv2
        by_cases hsec : sec = 0
        · subst hsec
          by_cases hn0 : n = 0
          · subst hn0
            have HE : Hid (H = hdNo code) := HQ.out
            clear HQ O4 hr4 HFO
            have HBZ : Hid _ := five_below (.string ⟨#[]⟩) (.string ⟨#[]⟩) (.int .i64 0) (.slice none 0 0) (.slice none 0 0) D4 (Nat.le_refl _)
            unfold five at HBZ
            have HW := five_cells hg4 (.string ⟨#[]⟩) (.string ⟨#[]⟩) (.int .i64 0) (.slice none 0 0) (.slice none 0 0)
            have a0 := tblk_cell (i := 0) hg4 rfl
            have z0 := lblk_z (i := 0) hg4
            have a1 := tblk_cell (i := 1) hg4 rfl
            have z1 := lblk_z (i := 1) hg4
            have a2 := tblk_cell (i := 2) hg4 rfl
            have z2 := lblk_z (i := 2) hg4
            have a3 := tblk_cell (i := 3) hg4 rfl
            have z3 := lblk_z (i := 3) hg4
            have a4 := tblk_cell (i := 4) hg4 rfl
            have z4 := lblk_z (i := 4) hg4
            have r0 := tblk_cell (i := 0) HW rfl
            have r1 := tblk_cell (i := 1) HW rfl
            have r2 := tblk_cell (i := 2) HW rfl
            have r3 := tblk_cell (i := 3) HW rfl
            have r4 := tblk_cell (i := 4) HW rfl
            unfold five at r0 r1 r2 r3 r4
            clear HW hg4 D4
            go_wp2
            refine bodyPost_ret (v := .tuple #[.agg #[.string ⟨#[]⟩, .string ⟨#[]⟩, .int .i64 0, .slice none 0 0, .slice none 0 0], .int .i64 0, .int .i64 0, .bool false, .int .i64 code]) (by simp [results, Tryz.results32, go_sem, r0, r1, r2, r3, r4]) rfl ?_
            exact openNo HBZ.out HE.out
          · have HQ2 : Hid (H = if headSt fs qn = 0 then ⟨qm, qt, qn, fs, n, 0⟩ else hdNo (headSt fs qn)) := by
              rw [Hid, HQ.out]
              unfold openK
              simp only [if_true]
              rw [if_neg hn0]
            have hn1 : ¬ ((n : Nat) : Int) = 0 := by omega
            have hn2 : (((n : Nat) : Int) == 0) = false := by simpa using hn1
            clear HQ
            have hr5 := field3 (v := .slice fa fs.length fc) hr4
            have hg5 : (w4.setCell ⟨p, 3, none⟩ (.slice fa fs.length fc)).heap[w.heap.size]? = some (.cells #[.string ⟨#[]⟩, .string ⟨#[]⟩, .int .i64 0, .slice none 0 0, .slice none 0 0] 26) := (set_away (by omega)).trans hg4
            have D5 : Below w.heap.size w (w4.setCell ⟨p, 3, none⟩ (.slice fa fs.length fc)) := D4.setCell (p := ⟨p, 3, none⟩) (Nat.le_of_lt hsp) _
            have O5 : OwnF w3.heap.size (w4.setCell ⟨p, 3, none⟩ (.slice fa fs.length fc)) (.slice fa fs.length fc) fs := O4.kept (fun k h1 h2 => set_away (by omega))
            have y3 := tblk_cell (i := 3) hr4 rfl
            have x3 := lblk_z (i := 3) hr4
            clear D4 hg4 hr4 O4
            have HGT : Hid (∀ W, Fds W.heap.size W (.slice fa fs.length fc) fs → Calls Tryz.prog 42 #[.slice fa fs.length fc, .string ⟨#[104, 111, 115, 116]⟩] W fun e w' => ∃ ao cv, e = .returned (.slice ao (getF fs tHost).length cv) ∧ OwnT W.heap.size w' (.slice ao (getF fs tHost).length cv) (getF fs tHost) ∧ Below W.heap.size W w') := fun W F => by
              have k := rget_any fs fa fc ⟨#[104, 111, 115, 116]⟩ W F (bd_big HFO.out.2) (by decide) (by have := HFO.out.1; omega)
              rw [getF_congr (show foldS ⟨#[104, 111, 115, 116]⟩ = foldS tHost by decide +kernel)] at k
              exact k
            have HR7 : Hid (∀ W, Fds W.heap.size W (.slice fa fs.length fc) fs → Calls Tryz.prog 65 #[.slice fa fs.length fc, .int .i64 qn] W fun e w' => e = .returned (.tuple #[.int .i64 (reqF fs qn).1, .bool (reqF fs qn).2.1, .int .i64 (reqF fs qn).2.2]) ∧ Below W.heap.size W w') := fun W F => rrequest_any fs fa fc qn W F (bd_big HFO.out.2) (by have := HFO.out.1; omega)
            have HBT : Hid (TBd 1000 (getF fs tHost)) := getF_bd HFO.out.2
            have HOS : Hid (opS (⟨qm, qt, qn, fs, n, 0⟩ : Hd) = ((reqF fs qn).1, (reqF fs qn).2.1)) := by
              rw [Hid]
              unfold opS
              rw [if_neg hn0]
            unfold headSt at HQ2
            generalize getF fs tHost = hs at *
            generalize reqF fs qn = E at *
            obtain ⟨E1, E2, E3⟩ := E
            simp only at HR7 HQ2 HOS
            clear HFO hn0
            have HFL : Hid (OwnF w3.heap.size (w4.setCell ⟨p, 3, none⟩ (.slice fa fs.length fc)) (.slice fa fs.length fc) fs) := O5
            clear O5
            go_wp2_with fail
            generalize w4.setCell ⟨p, 3, none⟩ (.slice fa fs.length fc) = w5 at *
            clear y3 x3
            refine (HGT.out _ HFL.out.fds).mono ?_
            rintro e w6 ⟨ao6, cv6, rfl, O6, B6⟩
            have D6 := D5.trans (B6.mono D5.size)
            have hg6 := tblk_below hg5 B6
            have hr6 := tblk_below hr5 B6
            have HF6 : Hid (OwnF w3.heap.size w6 (.slice fa fs.length fc) fs) := HFL.out.keep B6
            have d2 := tblk_cell (i := 2) hr6 rfl
            clear HFL D5 B6 hg5 hr5 HGT
            match hs, HQ2, HBT, O6 with
            | [], HQ2, _, O6 =>
              have hz : ([] : List ByteArray).length = 0 := rfl
              rw [hz] at *
              clear hz O6
              by_cases hq1 : qn = 1
              · subst hq1
                have HE : Hid (H = hdNo 400) := HQ2.out
                clear HQ2 HR7 HOS HF6 hr6
                have HBZ : Hid _ := five_below (.string ⟨#[]⟩) (.string ⟨#[]⟩) (.int .i64 0) (.slice none 0 0) (.slice none 0 0) D6 (Nat.le_refl _)
                unfold five at HBZ
                have HW := five_cells hg6 (.string ⟨#[]⟩) (.string ⟨#[]⟩) (.int .i64 0) (.slice none 0 0) (.slice none 0 0)
                have a0 := tblk_cell (i := 0) hg6 rfl
                have z0 := lblk_z (i := 0) hg6
                have a1 := tblk_cell (i := 1) hg6 rfl
                have z1 := lblk_z (i := 1) hg6
                have a2 := tblk_cell (i := 2) hg6 rfl
                have z2 := lblk_z (i := 2) hg6
                have a3 := tblk_cell (i := 3) hg6 rfl
                have z3 := lblk_z (i := 3) hg6
                have a4 := tblk_cell (i := 4) hg6 rfl
                have z4 := lblk_z (i := 4) hg6
                have r0 := tblk_cell (i := 0) HW rfl
                have r1 := tblk_cell (i := 1) HW rfl
                have r2 := tblk_cell (i := 2) HW rfl
                have r3 := tblk_cell (i := 3) HW rfl
                have r4 := tblk_cell (i := 4) HW rfl
                unfold five at r0 r1 r2 r3 r4
                clear HW hg6 D6
                go_wp2
                refine bodyPost_ret (v := .tuple #[.agg #[.string ⟨#[]⟩, .string ⟨#[]⟩, .int .i64 0, .slice none 0 0, .slice none 0 0], .int .i64 0, .int .i64 0, .bool false, .int .i64 400]) (by simp [results, Tryz.results32, go_sem, r0, r1, r2, r3, r4]) rfl ?_
                exact openNo HBZ.out HE.out
              · have hqb : (qn == 1) = false := by simpa using hq1
                have HQ3 : Hid (H = if E3 = 0 then ⟨qm, qt, qn, fs, n, 0⟩ else hdNo E3) := by
                  rw [Hid, HQ2.out]
                  have e : hostsOk [] qn = true := by unfold hostsOk; rw [hqb]; rfl
                  rw [e]
                  simp only [if_true]
                clear HQ2
                have d2 := tblk_cell (i := 2) hr6 rfl
                go_wp2_with fail
                refine (HR7.out _ HF6.out.fds).mono ?_
                rintro e w8 ⟨rfl, B8⟩
                have D8 := D6.trans (B8.mono D6.size)
                have hg8 := tblk_below hg6 B8
                have hr8 := tblk_below hr6 B8
                have HF8 : Hid (OwnF w3.heap.size w8 (.slice fa fs.length fc) fs) := HF6.out.keep B8
                clear d2 D6 hg6 hr6 HF6 B8 HR7
                by_cases hE3 : E3 = 0
                · subst hE3
                  have HE : Hid (H = ⟨qm, qt, qn, fs, n, 0⟩) := HQ3.out
                  clear HQ3
                  have HB5 : Hid _ := five_below (.string qm) (.string qt) (.int .i64 qn) (.slice fa fs.length fc) (.slice none 0 0) D8 (Nat.le_refl _)
                  have HO5 : Hid (OwnF w.heap.size (five w8 w.heap.size (.string qm) (.string qt) (.int .i64 qn) (.slice fa fs.length fc) (.slice none 0 0)) (.slice fa fs.length fc) fs) := (HF8.out.kept (fun k h1 h2 => five_away (by omega))).mono (by omega)
                  unfold five at HB5 HO5
                  have d0 := tblk_cell (i := 0) hr8 rfl
                  have d1 := tblk_cell (i := 1) hr8 rfl
                  have d2 := tblk_cell (i := 2) hr8 rfl
                  have d3 := tblk_cell (i := 3) hr8 rfl
                  have d4 := tblk_cell (i := 4) hr8 rfl
                  clear HF8 hr8 D8
                  have HW := five_cells hg8 (.string qm) (.string qt) (.int .i64 qn) (.slice fa fs.length fc) (.slice none 0 0)
                  have a0 := tblk_cell (i := 0) hg8 rfl
                  have z0 := lblk_z (i := 0) hg8
                  have a1 := tblk_cell (i := 1) hg8 rfl
                  have z1 := lblk_z (i := 1) hg8
                  have a2 := tblk_cell (i := 2) hg8 rfl
                  have z2 := lblk_z (i := 2) hg8
                  have a3 := tblk_cell (i := 3) hg8 rfl
                  have z3 := lblk_z (i := 3) hg8
                  have a4 := tblk_cell (i := 4) hg8 rfl
                  have z4 := lblk_z (i := 4) hg8
                  have r0 := tblk_cell (i := 0) HW rfl
                  have r1 := tblk_cell (i := 1) HW rfl
                  have r2 := tblk_cell (i := 2) HW rfl
                  have r3 := tblk_cell (i := 3) HW rfl
                  have r4 := tblk_cell (i := 4) HW rfl
                  unfold five at r0 r1 r2 r3 r4
                  clear HW hg8
                  go_wp2
                  refine bodyPost_ret (v := .tuple #[.agg #[.string qm, .string qt, .int .i64 qn, .slice fa fs.length fc, .slice none 0 0], .int .i64 (n : Nat), .int .i64 E1, .bool E2, .int .i64 0]) (by simp [results, Tryz.results32, go_sem, r0, r1, r2, r3, r4]) rfl ?_
                  rw [HE.out]
                  refine ⟨fa, fc, ?_, HO5.out, HB5.out⟩
                  unfold opV
                  rw [HOS.out]
                · have HE : Hid (H = hdNo E3) := by rw [Hid, HQ3.out, if_neg hE3]
                  have hE3b : (E3 != 0) = true := by simpa using hE3
                  clear HQ3 hr8 HF8 HOS
                  have HBZ : Hid _ := five_below (.string ⟨#[]⟩) (.string ⟨#[]⟩) (.int .i64 0) (.slice none 0 0) (.slice none 0 0) D8 (Nat.le_refl _)
                  unfold five at HBZ
                  have HW := five_cells hg8 (.string ⟨#[]⟩) (.string ⟨#[]⟩) (.int .i64 0) (.slice none 0 0) (.slice none 0 0)
                  have a0 := tblk_cell (i := 0) hg8 rfl
                  have z0 := lblk_z (i := 0) hg8
                  have a1 := tblk_cell (i := 1) hg8 rfl
                  have z1 := lblk_z (i := 1) hg8
                  have a2 := tblk_cell (i := 2) hg8 rfl
                  have z2 := lblk_z (i := 2) hg8
                  have a3 := tblk_cell (i := 3) hg8 rfl
                  have z3 := lblk_z (i := 3) hg8
                  have a4 := tblk_cell (i := 4) hg8 rfl
                  have z4 := lblk_z (i := 4) hg8
                  have r0 := tblk_cell (i := 0) HW rfl
                  have r1 := tblk_cell (i := 1) HW rfl
                  have r2 := tblk_cell (i := 2) HW rfl
                  have r3 := tblk_cell (i := 3) HW rfl
                  have r4 := tblk_cell (i := 4) HW rfl
                  unfold five at r0 r1 r2 r3 r4
                  clear HW hg8 D8
                  go_wp2
                  refine bodyPost_ret (v := .tuple #[.agg #[.string ⟨#[]⟩, .string ⟨#[]⟩, .int .i64 0, .slice none 0 0, .slice none 0 0], .int .i64 0, .int .i64 0, .bool false, .int .i64 E3]) (by simp [results, Tryz.results32, go_sem, r0, r1, r2, r3, r4]) rfl ?_
                  exact openNo HBZ.out HE.out
            | [h], HQ2, HBT, O6 =>
              have hz : ([h] : List ByteArray).length = 1 := rfl
              rw [hz] at *
              have hsz := HBT.out h (List.mem_cons_self ..)
              have HHO : Hid (∀ W, Calls Tryz.prog 43 #[.string h] W fun e w' => e = .returned (.tuple #[.string (hostP h).1, .bool (hostP h).2]) ∧ Below W.heap.size W w') := fun W => rhost_any h W (by omega)
              obtain ⟨a', c', e', _, q1, q2, q3⟩ := O6.txs
              obtain ⟨rfl, hx1, rfl⟩ := slice_inj e'
              obtain ⟨g6, off6, rfl, _, hc6⟩ := q3 (Nat.succ_pos _)
              have c6 : w6.cell? ⟨g6, off6, none⟩ = some (.string h) := hc6 0 (Nat.succ_pos _)
              clear q1 q2 q3 hc6 hx1 e' hsz O6 hz d2
              have HQ3 : Hid (H = if (if (hostP h).2 = true then E3 else 400) = 0 then ⟨qm, qt, qn, fs, n, 0⟩ else hdNo (if (hostP h).2 = true then E3 else 400)) := by
                rw [Hid, HQ2.out]
                have e : hostsOk [h] qn = (hostP h).2 := by unfold hostsOk; simp
                rw [e]
              clear HQ2
              generalize hostP h = hp at *
              obtain ⟨hp1, hp2⟩ := hp
              simp only at HHO HQ3
              go_wp2_with fail
              refine (HHO.out _).mono ?_
              rintro e w7 ⟨rfl, B7⟩
              have D7 := D6.trans (B7.mono D6.size)
              have hg7 := tblk_below hg6 B7
              have hr7 := tblk_below hr6 B7
              have HF7 : Hid (OwnF w3.heap.size w7 (.slice fa fs.length fc) fs) := HF6.out.keep B7
              clear c6 D6 hg6 hr6 HF6 HHO B7
              cases hp2
              · have HE : Hid (H = hdNo 400) := HQ3.out
                clear HQ3 HR7 HOS HF7 hr7
                have HBZ : Hid _ := five_below (.string ⟨#[]⟩) (.string ⟨#[]⟩) (.int .i64 0) (.slice none 0 0) (.slice none 0 0) D7 (Nat.le_refl _)
                unfold five at HBZ
                have HW := five_cells hg7 (.string ⟨#[]⟩) (.string ⟨#[]⟩) (.int .i64 0) (.slice none 0 0) (.slice none 0 0)
                have a0 := tblk_cell (i := 0) hg7 rfl
                have z0 := lblk_z (i := 0) hg7
                have a1 := tblk_cell (i := 1) hg7 rfl
                have z1 := lblk_z (i := 1) hg7
                have a2 := tblk_cell (i := 2) hg7 rfl
                have z2 := lblk_z (i := 2) hg7
                have a3 := tblk_cell (i := 3) hg7 rfl
                have z3 := lblk_z (i := 3) hg7
                have a4 := tblk_cell (i := 4) hg7 rfl
                have z4 := lblk_z (i := 4) hg7
                have r0 := tblk_cell (i := 0) HW rfl
                have r1 := tblk_cell (i := 1) HW rfl
                have r2 := tblk_cell (i := 2) HW rfl
                have r3 := tblk_cell (i := 3) HW rfl
                have r4 := tblk_cell (i := 4) HW rfl
                unfold five at r0 r1 r2 r3 r4
                clear HW hg7 D7
                go_wp2
                refine bodyPost_ret (v := .tuple #[.agg #[.string ⟨#[]⟩, .string ⟨#[]⟩, .int .i64 0, .slice none 0 0, .slice none 0 0], .int .i64 0, .int .i64 0, .bool false, .int .i64 400]) (by simp [results, Tryz.results32, go_sem, r0, r1, r2, r3, r4]) rfl ?_
                exact openNo HBZ.out HE.out
              · have HQ4 : Hid (H = if E3 = 0 then ⟨qm, qt, qn, fs, n, 0⟩ else hdNo E3) := by
                  have k := HQ3.out
                  rw [Hid]
                  simpa using k
                clear HQ3
                have HQ3 := HQ4
                clear HQ4
                have d2 := tblk_cell (i := 2) hr7 rfl
                go_wp2_with fail
                refine (HR7.out _ HF7.out.fds).mono ?_
                rintro e w8 ⟨rfl, B8⟩
                have D8 := D7.trans (B8.mono D7.size)
                have hg8 := tblk_below hg7 B8
                have hr8 := tblk_below hr7 B8
                have HF8 : Hid (OwnF w3.heap.size w8 (.slice fa fs.length fc) fs) := HF7.out.keep B8
                clear d2 D7 hg7 hr7 HF7 B8 HR7
                by_cases hE3 : E3 = 0
                · subst hE3
                  have HE : Hid (H = ⟨qm, qt, qn, fs, n, 0⟩) := HQ3.out
                  clear HQ3
                  have HB5 : Hid _ := five_below (.string qm) (.string qt) (.int .i64 qn) (.slice fa fs.length fc) (.slice none 0 0) D8 (Nat.le_refl _)
                  have HO5 : Hid (OwnF w.heap.size (five w8 w.heap.size (.string qm) (.string qt) (.int .i64 qn) (.slice fa fs.length fc) (.slice none 0 0)) (.slice fa fs.length fc) fs) := (HF8.out.kept (fun k h1 h2 => five_away (by omega))).mono (by omega)
                  unfold five at HB5 HO5
                  have d0 := tblk_cell (i := 0) hr8 rfl
                  have d1 := tblk_cell (i := 1) hr8 rfl
                  have d2 := tblk_cell (i := 2) hr8 rfl
                  have d3 := tblk_cell (i := 3) hr8 rfl
                  have d4 := tblk_cell (i := 4) hr8 rfl
                  clear HF8 hr8 D8
                  have HW := five_cells hg8 (.string qm) (.string qt) (.int .i64 qn) (.slice fa fs.length fc) (.slice none 0 0)
                  have a0 := tblk_cell (i := 0) hg8 rfl
                  have z0 := lblk_z (i := 0) hg8
                  have a1 := tblk_cell (i := 1) hg8 rfl
                  have z1 := lblk_z (i := 1) hg8
                  have a2 := tblk_cell (i := 2) hg8 rfl
                  have z2 := lblk_z (i := 2) hg8
                  have a3 := tblk_cell (i := 3) hg8 rfl
                  have z3 := lblk_z (i := 3) hg8
                  have a4 := tblk_cell (i := 4) hg8 rfl
                  have z4 := lblk_z (i := 4) hg8
                  have r0 := tblk_cell (i := 0) HW rfl
                  have r1 := tblk_cell (i := 1) HW rfl
                  have r2 := tblk_cell (i := 2) HW rfl
                  have r3 := tblk_cell (i := 3) HW rfl
                  have r4 := tblk_cell (i := 4) HW rfl
                  unfold five at r0 r1 r2 r3 r4
                  clear HW hg8
                  go_wp2
                  refine bodyPost_ret (v := .tuple #[.agg #[.string qm, .string qt, .int .i64 qn, .slice fa fs.length fc, .slice none 0 0], .int .i64 (n : Nat), .int .i64 E1, .bool E2, .int .i64 0]) (by simp [results, Tryz.results32, go_sem, r0, r1, r2, r3, r4]) rfl ?_
                  rw [HE.out]
                  refine ⟨fa, fc, ?_, HO5.out, HB5.out⟩
                  unfold opV
                  rw [HOS.out]
                · have HE : Hid (H = hdNo E3) := by rw [Hid, HQ3.out, if_neg hE3]
                  have hE3b : (E3 != 0) = true := by simpa using hE3
                  clear HQ3 hr8 HF8 HOS
                  have HBZ : Hid _ := five_below (.string ⟨#[]⟩) (.string ⟨#[]⟩) (.int .i64 0) (.slice none 0 0) (.slice none 0 0) D8 (Nat.le_refl _)
                  unfold five at HBZ
                  have HW := five_cells hg8 (.string ⟨#[]⟩) (.string ⟨#[]⟩) (.int .i64 0) (.slice none 0 0) (.slice none 0 0)
                  have a0 := tblk_cell (i := 0) hg8 rfl
                  have z0 := lblk_z (i := 0) hg8
                  have a1 := tblk_cell (i := 1) hg8 rfl
                  have z1 := lblk_z (i := 1) hg8
                  have a2 := tblk_cell (i := 2) hg8 rfl
                  have z2 := lblk_z (i := 2) hg8
                  have a3 := tblk_cell (i := 3) hg8 rfl
                  have z3 := lblk_z (i := 3) hg8
                  have a4 := tblk_cell (i := 4) hg8 rfl
                  have z4 := lblk_z (i := 4) hg8
                  have r0 := tblk_cell (i := 0) HW rfl
                  have r1 := tblk_cell (i := 1) HW rfl
                  have r2 := tblk_cell (i := 2) HW rfl
                  have r3 := tblk_cell (i := 3) HW rfl
                  have r4 := tblk_cell (i := 4) HW rfl
                  unfold five at r0 r1 r2 r3 r4
                  clear HW hg8 D8
                  go_wp2
                  refine bodyPost_ret (v := .tuple #[.agg #[.string ⟨#[]⟩, .string ⟨#[]⟩, .int .i64 0, .slice none 0 0, .slice none 0 0], .int .i64 0, .int .i64 0, .bool false, .int .i64 E3]) (by simp [results, Tryz.results32, go_sem, r0, r1, r2, r3, r4]) rfl ?_
                  exact openNo HBZ.out HE.out
            | h1 :: h2 :: r, HQ2, _, O6 =>
              have HE : Hid (H = hdNo 400) := by
                rw [Hid, HQ2.out]
                have e : hostsOk (h1 :: h2 :: r) qn = false := by unfold hostsOk; simp
                rw [e]
                rfl
              have hz : (h1 :: h2 :: r : List ByteArray).length = r.length + 2 := rfl
              rw [hz] at *
              have hz1 : (1 : Int) < ((r.length + 2 : Nat) : Int) := by omega
              generalize r.length + 2 = rl at *
              clear HQ2 HR7 HOS HF6 hr6 O6 d2
              have HBZ : Hid _ := five_below (.string ⟨#[]⟩) (.string ⟨#[]⟩) (.int .i64 0) (.slice none 0 0) (.slice none 0 0) D6 (Nat.le_refl _)
              unfold five at HBZ
              have HW := five_cells hg6 (.string ⟨#[]⟩) (.string ⟨#[]⟩) (.int .i64 0) (.slice none 0 0) (.slice none 0 0)
              have a0 := tblk_cell (i := 0) hg6 rfl
              have z0 := lblk_z (i := 0) hg6
              have a1 := tblk_cell (i := 1) hg6 rfl
              have z1 := lblk_z (i := 1) hg6
              have a2 := tblk_cell (i := 2) hg6 rfl
              have z2 := lblk_z (i := 2) hg6
              have a3 := tblk_cell (i := 3) hg6 rfl
              have z3 := lblk_z (i := 3) hg6
              have a4 := tblk_cell (i := 4) hg6 rfl
              have z4 := lblk_z (i := 4) hg6
              have r0 := tblk_cell (i := 0) HW rfl
              have r1 := tblk_cell (i := 1) HW rfl
              have r2 := tblk_cell (i := 2) HW rfl
              have r3 := tblk_cell (i := 3) HW rfl
              have r4 := tblk_cell (i := 4) HW rfl
              unfold five at r0 r1 r2 r3 r4
              clear HW hg6 D6
              go_wp2
              refine bodyPost_ret (v := .tuple #[.agg #[.string ⟨#[]⟩, .string ⟨#[]⟩, .int .i64 0, .slice none 0 0, .slice none 0 0], .int .i64 0, .int .i64 0, .bool false, .int .i64 400]) (by simp [results, Tryz.results32, go_sem, r0, r1, r2, r3, r4]) rfl ?_
              exact openNo HBZ.out HE.out
        · have HE : Hid (H = hdNo sec) := by
            rw [Hid, HQ.out]
            unfold openK
            simp only [if_true]
            rw [if_neg hsec]
          have hsb : (sec != 0) = true := by simpa using hsec
          clear HQ O4 hr4 HFO
          have HBZ : Hid _ := five_below (.string ⟨#[]⟩) (.string ⟨#[]⟩) (.int .i64 0) (.slice none 0 0) (.slice none 0 0) D4 (Nat.le_refl _)
          unfold five at HBZ
          have HW := five_cells hg4 (.string ⟨#[]⟩) (.string ⟨#[]⟩) (.int .i64 0) (.slice none 0 0) (.slice none 0 0)
          have a0 := tblk_cell (i := 0) hg4 rfl
          have z0 := lblk_z (i := 0) hg4
          have a1 := tblk_cell (i := 1) hg4 rfl
          have z1 := lblk_z (i := 1) hg4
          have a2 := tblk_cell (i := 2) hg4 rfl
          have z2 := lblk_z (i := 2) hg4
          have a3 := tblk_cell (i := 3) hg4 rfl
          have z3 := lblk_z (i := 3) hg4
          have a4 := tblk_cell (i := 4) hg4 rfl
          have z4 := lblk_z (i := 4) hg4
          have r0 := tblk_cell (i := 0) HW rfl
          have r1 := tblk_cell (i := 1) HW rfl
          have r2 := tblk_cell (i := 2) HW rfl
          have r3 := tblk_cell (i := 3) HW rfl
          have r4 := tblk_cell (i := 4) HW rfl
          unfold five at r0 r1 r2 r3 r4
          clear HW hg4 D4
          go_wp2
          refine bodyPost_ret (v := .tuple #[.agg #[.string ⟨#[]⟩, .string ⟨#[]⟩, .int .i64 0, .slice none 0 0, .slice none 0 0], .int .i64 0, .int .i64 0, .bool false, .int .i64 sec]) (by simp [results, Tryz.results32, go_sem, r0, r1, r2, r3, r4]) rfl ?_
          exact openNo HBZ.out HE.out
    · have HE : Hid (H = hdNo qc) := by rw [Hid, HQ.out]; unfold openK; rw [if_neg hqc]
      have hqb : (qc != 0) = true := by simpa using hqc
      clear HQ HFF hr3 T3 hsp
      have HBZ : Hid _ := five_below (.string ⟨#[]⟩) (.string ⟨#[]⟩) (.int .i64 0) (.slice none 0 0) (.slice none 0 0) D3 (Nat.le_refl _)
      unfold five at HBZ
      have HW := five_cells hg3 (.string ⟨#[]⟩) (.string ⟨#[]⟩) (.int .i64 0) (.slice none 0 0) (.slice none 0 0)
      have a0 := tblk_cell (i := 0) hg3 rfl
      have z0 := lblk_z (i := 0) hg3
      have a1 := tblk_cell (i := 1) hg3 rfl
      have z1 := lblk_z (i := 1) hg3
      have a2 := tblk_cell (i := 2) hg3 rfl
      have z2 := lblk_z (i := 2) hg3
      have a3 := tblk_cell (i := 3) hg3 rfl
      have z3 := lblk_z (i := 3) hg3
      have a4 := tblk_cell (i := 4) hg3 rfl
      have z4 := lblk_z (i := 4) hg3
      have r0 := tblk_cell (i := 0) HW rfl
      have r1 := tblk_cell (i := 1) HW rfl
      have r2 := tblk_cell (i := 2) HW rfl
      have r3 := tblk_cell (i := 3) HW rfl
      have r4 := tblk_cell (i := 4) HW rfl
      unfold five at r0 r1 r2 r3 r4
      clear HW hg3 D3
      go_wp2
      refine bodyPost_ret (v := .tuple #[.agg #[.string ⟨#[]⟩, .string ⟨#[]⟩, .int .i64 0, .slice none 0 0, .slice none 0 0], .int .i64 0, .int .i64 0, .bool false, .int .i64 qc]) (by simp [results, Tryz.results32, go_sem, r0, r1, r2, r3, r4]) rfl ?_
      exact openNo HBZ.out HE.out

end Go.Proofs.YtkdnckkdofoaoaaGreatDoor
