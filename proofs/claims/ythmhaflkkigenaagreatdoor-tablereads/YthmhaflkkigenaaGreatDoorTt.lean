/- Texts that the proof leans on, one behind the other: RnC -/
import Derived.Test.YthmhaflkkigenaaGreatDoorTs
import Derived.Test.YthmhaflkkigenaaGreatDoorTk
import Derived.BigQuiet
/- The reference's Right. -/
namespace Go.Proofs.YthmhaflkkigenaaGreatDoor
open Go.ChangeShapes Go.WideShapes Go.ChangeAt Go.RowKit
set_option linter.unusedVariables false

/-- What holds of the first i slots. -/
structure RG (ts : List SlotP) (i : Nat) : Prop where
  each : ∀ s ∈ ts.take i, wrS s = false
  names : (namesP (ts.take i)).Nodup
  hosts : (hostsP (ts.take i)).Nodup
theorem RG.zero (ts : List SlotP) : RG ts 0 := ⟨(fun s hs => by rw [List.take_zero] at hs; cases hs), by rw [List.take_zero]; exact List.nodup_nil, by rw [List.take_zero]; exact List.nodup_nil⟩
theorem RG.done {ts : List SlotP} (h : RG ts ts.length) (h1 : 1 ≤ ts.length) (h2 : ts.length ≤ 16) : rightP ts = true := by
  obtain ⟨a, b, c⟩ := h
  rw [List.take_of_length_le (Nat.le_refl _)] at a b c
  exact (right_iff ts).2 ⟨h1, h2, a, b, c⟩
theorem rg_one {ts : List SlotP} {i : Nat} (hi : i < ts.length) (h : wrS ts[i] = true) : rightP ts = false := right_false fun r => by
  rw [r.each _ (List.getElem_mem hi)] at h; cases h
theorem rg_name {ts : List SlotP} {j i : Nat} (hji : j < i) (hi : i < ts.length) (h : (ts[j]'(by omega)).n = ts[i].n) : rightP ts = false := right_false fun r => by
  have k := List.pairwise_iff_getElem.1 r.names j i (by unfold namesP; rw [List.length_map]; omega) (by unfold namesP; rw [List.length_map]; omega) hji
  apply k
  unfold namesP
  rw [List.getElem_map, List.getElem_map]
  exact h
def hostsTo (ts : List SlotP) (i k : Nat) (h : List ByteArray) : List ByteArray := hostsP (ts.take i) ++ h.take k
theorem rg_host {ts : List SlotP} {i k : Nat} (hi : i < ts.length) (hk : k < ts[i].h.length) (h : ts[i].h[k] ∈ hostsTo ts i k ts[i].h) : rightP ts = false := right_false fun r => by
  have e := cut_at i hi
  have q := r.hosts
  rw [e, hostsP_app, hostsP_cons, ← List.append_assoc] at q
  have q2 := (List.nodup_append.1 q).1
  have e2 : ts[i].h = ts[i].h.take k ++ ts[i].h[k] :: ts[i].h.drop (k + 1) := by rw [← List.drop_eq_getElem_cons hk, List.take_append_drop]
  rw [e2, ← List.append_assoc] at q2
  have q3 := (List.nodup_append.1 q2).2.2
  exact q3 _ h _ List.mem_cons_self rfl
theorem hostsTo_zero (ts : List SlotP) (i : Nat) (h : List ByteArray) : hostsTo ts i 0 h = hostsP (ts.take i) := by unfold hostsTo; rw [List.take_zero, List.append_nil]
theorem hostsTo_succ (ts : List SlotP) (i k : Nat) (h : List ByteArray) (hk : k < h.length) : hostsTo ts i (k + 1) h = hostsTo ts i k h ++ [h[k]] := by
  unfold hostsTo; rw [List.take_succ_eq_append_getElem hk, List.append_assoc]
theorem hostsTo_end (ts : List SlotP) (i : Nat) (hi : i < ts.length) : hostsTo ts i ts[i].h.length ts[i].h = hostsP (ts.take (i + 1)) := by
  unfold hostsTo
  rw [List.take_length, List.take_succ_eq_append_getElem hi, hostsP_app]
  congr 1
  rw [hostsP_cons]
  show ts[i].h = ts[i].h ++ []
  rw [List.append_nil]
theorem RG.next {ts : List SlotP} {i : Nat} (h : RG ts i) (hi : i < ts.length) (h1 : wrS ts[i] = false) (h2 : ∀ (j : Nat) (hj : j < i), (ts[j]'(Nat.lt_trans hj hi)).n ≠ ts[i].n) (h3 : (hostsTo ts i ts[i].h.length ts[i].h).Nodup) : RG ts (i + 1) := by
  rw [hostsTo_end ts i hi] at h3
  refine ⟨fun s hs => ?_, ?_, h3⟩
  · rw [List.take_succ_eq_append_getElem hi] at hs
    rcases List.mem_append.1 hs with q | q
    · exact h.each s q
    · rw [List.mem_singleton] at q; rw [q]; exact h1
  · rw [List.take_succ_eq_append_getElem hi, namesP_app]
    refine List.nodup_append.2 ⟨h.names, List.nodup_cons.2 ⟨by simp, List.nodup_nil⟩, ?_⟩
    intro a ha b hb e
    have hb' : b = ts[i].n := by simpa [namesP] using hb
    unfold namesP at ha
    obtain ⟨s, hs, rfl⟩ := List.mem_map.1 ha
    obtain ⟨j, hj, rfl⟩ := List.mem_iff_getElem.1 hs
    rw [List.length_take] at hj
    rw [List.getElem_take] at e
    exact h2 j (by omega) (e.trans hb')
theorem nodup_snoc {L : List ByteArray} {x : ByteArray} (h : L.Nodup) (hx : ∀ (j : Nat) (hj : j < L.length), L[j] ≠ x) : (L ++ [x]).Nodup := by
  refine List.nodup_append.2 ⟨h, List.nodup_cons.2 ⟨by simp, List.nodup_nil⟩, ?_⟩
  intro a ha b hb e
  rw [List.mem_singleton] at hb
  obtain ⟨j, hj, rfl⟩ := List.mem_iff_getElem.1 ha
  exact hx j hj (e.trans hb)
theorem hosts_len {ts : List SlotP} {i : Nat} (h : RG ts i) : (hostsP (ts.take i)).length ≤ i * 8 := by
  have key : ∀ l : List SlotP, (∀ s ∈ l, wrS s = false) → (hostsP l).length ≤ l.length * 8 := by
    intro l
    induction l with
    | nil => intro _; simp [hostsP]
    | cons s l ih =>
      intro hl
      rw [hostsP_cons, List.length_append, List.length_cons]
      have a := (hosts_pos (hl s List.mem_cons_self)).2
      have b := ih (fun x hx => hl x (List.mem_cons_of_mem _ hx))
      omega
  have a := key (ts.take i) h.each
  have b : (ts.take i).length ≤ i := List.length_take_le _ _
  omega
def SC8 (W : World) (g o : Nat) (s : SlotP) (a : Option Addr) (c : Nat) : Prop := W.cell? ⟨g, o, none⟩ = some (.string s.n) ∧ W.cell? ⟨g, o + 1, none⟩ = some (.slice a s.h.length c) ∧ W.cell? ⟨g, o + 2, none⟩ = some (.int .i64 s.q) ∧ W.cell? ⟨g, o + 3, none⟩ = some (.int .i64 s.c) ∧ W.cell? ⟨g, o + 4, none⟩ = some (.int .i64 s.p) ∧ W.cell? ⟨g, o + 5, none⟩ = some (.int .i64 s.r) ∧ W.cell? ⟨g, o + 6, none⟩ = some (.int .i64 s.b) ∧ W.cell? ⟨g, o + 7, none⟩ = some (.int .i64 s.u)
theorem sc8_of {W : World} {g o : Nat} {s : SlotP} {a : Option Addr} {c : Nat} (h : ∀ q, q < 8 → W.cell? ⟨g, o + q, none⟩ = (slotV s a c)[q]?) : SC8 W g o s a c :=
  ⟨h 0 (by decide), h 1 (by decide), h 2 (by decide), h 3 (by decide), h 4 (by decide), h 5 (by decide), h 6 (by decide), h 7 (by decide)⟩
theorem rn_blk0 {W : World} {B g : Nat} (hB : B ≤ g) (h : W.heap[g]? = some (.cells #[] 9)) : OwnT B W (.slice (some ⟨g, 0, none⟩) 0 0) [] :=
  ⟨rfl, .inr ⟨g, 0, #[], rfl, hB, h, Nat.le_refl _, by decide, rfl, rfl⟩⟩
set_option maxRecDepth 100000 in
set_option maxHeartbeats 8000000 in
theorem r9right_any (ts : List SlotP) (a : Option Addr) (c : Nat) (w : World) (hf : Sls w.heap.size w (.slice a ts.length c) ts) (hb : ∀ s ∈ ts, UBd s) :
    Calls Tryz.prog 19 #[.slice a ts.length c] w fun e w' => e = .returned (.bool (rightP ts)) ∧ Below w.heap.size w w' := by
  have hlm := hf.len
  unfold maxLen at hlm
  by_cases hlo : ts.length < 1
  · have hlo' : decide ((ts.length : Int) < 1) = true := decide_eq_true (by omega)
    have hR : rightP ts = false := right_false fun r => by have := r.lo; omega
    rw [hR]
    clear hf hb hR hlo
    go_enter Tryz.func19, Tryz.ntmps19
    go_wp2
    go_ret
    exact ⟨rfl, Below.refl _ _⟩
  · have hlo' : decide ((ts.length : Int) < 1) = false := decide_eq_false (by omega)
    by_cases hhi : 16 < ts.length
    · have hhi' : decide ((16 : Int) < (ts.length : Int)) = true := decide_eq_true (by omega)
      have hR : rightP ts = false := right_false fun r => by have := r.hi; omega
      rw [hR]
      clear hf hb hR hlo hhi
      go_enter Tryz.func19, Tryz.ntmps19
      go_wp2
      go_ret
      exact ⟨rfl, Below.refl _ _⟩
    · have hhi' : decide ((16 : Int) < (ts.length : Int)) = false := decide_eq_false (by omega)
      obtain ⟨Y, hY, hS⟩ := srcC_of hf
      have hYl : Y.length = ts.length := by rw [← hY, List.length_map]
      obtain ⟨a', c', e, q1, q2, q3, hSl, hSh⟩ := id hS
      obtain ⟨rfl, q4, rfl⟩ := slice_inj e
      obtain ⟨g, off, rfl, hg, hc⟩ := hSl (by omega)
      clear q1 q2 q3 q4 e hSl
      have HC : Hid (∀ (j : Nat) (hj : j < ts.length), ∃ y : SlotX, y.s = ts[j] ∧ (∀ (i : Nat), i < 8 → w.cell? ⟨g, off + j * 8 + i, none⟩ = (slotV y.s y.a y.c)[i]?) ∧ Txs w.heap.size w (.slice y.a y.s.h.length y.c) y.s.h) := fun j hj => by
        have hj' : j < Y.length := by omega
        refine ⟨Y[j], ?_, hc j hj', hSh _ (List.getElem_mem hj')⟩
        have e : (Y.map (·.s))[j]'(by rw [List.length_map]; exact hj') = ts[j] := by
          simp only [hY]
        rw [List.getElem_map] at e
        exact e
      have HUB : Hid (∀ s ∈ ts, UBd s) := hb
      have HD : Hid (RG ts ts.length → rightP ts = true) := fun h => h.done (by omega) (by omega)
      have HONE : Hid (∀ (i : Nat) (hi : i < ts.length), wrS ts[i] = true → rightP ts = false) := fun i hi h => rg_one hi h
      have HNAM : Hid (∀ (j i : Nat) (hji : j < i) (hi : i < ts.length), (ts[j]'(Nat.lt_trans hji hi)).n = ts[i].n → rightP ts = false) := fun j i hji hi h => rg_name hji hi h
      have HHOS : Hid (∀ (i k : Nat) (hi : i < ts.length) (hk : k < ts[i].h.length), ts[i].h[k] ∈ hostsTo ts i k ts[i].h → rightP ts = false) := fun i k hi hk h => rg_host hi hk h
      generalize rightP ts = R at *
      have O1 : OwnT w.heap.size (w.alloc (.cells #[] 9)) (.slice (some ⟨w.heap.size, 0, none⟩) 0 0) [] := rn_blk0 (Nat.le_refl _) (new_at _ _)
      have E1 : Below w.heap.size w (w.alloc (.cells #[] 9)) := (Below.refl _ _).alloc (Nat.le_refl _) _
      clear hf hb hY hYl hS hSh hc
      go_enter Tryz.func19, Tryz.ntmps19
      go_wp2_with fail
      go_loopw [3, 4] (fun v3 v4 wr => ∃ (i : Nat) (ao : Option Addr) (cv : Nat), i ≤ ts.length ∧ v4 = .int .i64 i ∧ v3 = .slice ao (hostsP (ts.take i)).length cv ∧ Hid (OwnT w.heap.size wr (.slice ao (hostsP (ts.take i)).length cv) (hostsP (ts.take i))) ∧ Hid (RG ts i) ∧ Below w.heap.size w wr) (fun _ v4 _ => ts.length - (intOf v4).toNat)
      case atStart => exact ⟨0, _, _, Nat.zero_le _, rfl, rfl, O1, RG.zero ts, E1⟩
      case round =>
        obtain ⟨i, ao, cv, hi, rfl, rfl, hO, hG, hB⟩ := hrel
        clear O1 E1
        by_cases hlt : i < ts.length
        · obtain ⟨⟨ys, ya, yc⟩, hys, hcell, htx⟩ := HC.out i hlt
          simp only at hys hcell htx
          subst hys
          have HO1 : Hid (∀ W, Below w.heap.size w W → Calls Tryz.prog 43 #[.agg (slotV ts[i] ya yc)] W fun e w' => e = .returned (.bool (!wrS ts[i])) ∧ Below W.heap.size W w') := fun W b => r9one_any ts[i] ya yc W ((htx.keep b).mono b.size) (HUB.out _ (List.getElem_mem hlt))
          have HON := HONE.out i hlt
          have HNA : Hid (∀ (j : Nat) (hj : j < i), (ts[j]'(Nat.lt_trans hj hlt)).n = ts[i].n → R = false) := fun j hj h => HNAM.out j i hj hlt h
          have HHO : Hid (∀ (k : Nat) (hk : k < ts[i].h.length), ts[i].h[k] ∈ hostsTo ts i k ts[i].h → R = false) := fun k hk h => HHOS.out i k hlt hk h
          have HNX : Hid (wrS ts[i] = false → (∀ (j : Nat) (hj : j < i), (ts[j]'(Nat.lt_trans hj hlt)).n ≠ ts[i].n) → (hostsTo ts i ts[i].h.length ts[i].h).Nodup → RG ts (i + 1)) := fun h1 h2 h3 => hG.out.next hlt h1 h2 h3
          have HLE : Hid (hostsTo ts i ts[i].h.length ts[i].h = hostsP (ts.take (i + 1))) := hostsTo_end ts i hlt
          have HL8 : Hid (wrS ts[i] = false → ts[i].h.length ≤ 8) := fun h => (hosts_pos h).2
          have HHL : Hid ((hostsP (ts.take i)).length ≤ i * 8) := hosts_len hG.out
          have HND : Hid ((hostsP (ts.take i)).Nodup) := hG.out.hosts
          have HCI : Hid (∀ W, Below w.heap.size w W → SC8 W g (off + i * 8) ts[i] ya yc) := fun W b => sc8_of fun q hq => (b.cell (p := ⟨g, _, none⟩) hg).trans (hcell q hq)
          have HTX : Hid (∀ W, Below w.heap.size w W → Txs w.heap.size W (.slice ya ts[i].h.length yc) ts[i].h) := fun W b => htx.keep b
          have HNM : Hid (∀ W, Below w.heap.size w W → ∀ (k : Nat) (hk : k < i), W.cell? ⟨g, off + k * 8, none⟩ = some (.string (ts[k]'(Nat.lt_trans hk hlt)).n)) := fun W b k hk => by
            obtain ⟨⟨zs, za, zc⟩, hzs, hz, _⟩ := HC.out k (by omega)
            simp only at hzs hz
            subst hzs
            exact (b.cell (p := ⟨g, _, none⟩) hg).trans (hz 0 (by decide))
          clear hcell htx HONE HNAM HHOS HC HUB hG HD
          generalize ts[i] = si at *
          obtain ⟨d0, d1, d2, d3, d4, d5, d6, d7⟩ := HCI.out wr hB
          cases hw : wrS si
          · rw [hw] at HO1
            clear HON
            have hl8 := HL8.out hw
            have HN2 : Hid ((∀ (j : Nat) (hj : j < i), (ts[j]'(Nat.lt_trans hj hlt)).n ≠ si.n) → (hostsTo ts i si.h.length si.h).Nodup → RG ts (i + 1)) := HNX.out hw
            clear HNX HL8 hw
            go_wp2_with fail
            refine (HO1.out _ hB).mono ?_
            rintro e w1 ⟨rfl, B1⟩
            have hB1 := hB.trans (B1.mono hB.size)
            have HOW : Hid (OwnT w.heap.size w1 (.slice ao (hostsP (ts.take i)).length cv) (hostsP (ts.take i))) := hO.out.keep B1
            clear HO1 hO d0 d1 d2 d3 d4 d5 d6 d7
            go_wp2_with fail
            go_loopw [5] (fun v5 wr2 => ∃ k : Nat, k ≤ i ∧ v5 = .int .i64 k ∧ Below w1.heap.size w1 wr2 ∧ Hid (∀ (j : Nat) (hj : j < k) (hji : j < i), (ts[j]'(Nat.lt_trans hji hlt)).n ≠ si.n)) (fun v5 _ => i - (intOf v5).toNat)
            case atStart => exact ⟨0, Nat.zero_le _, rfl, Below.refl _ _, fun j hj => absurd hj (Nat.not_lt_zero _)⟩
            case round =>
              rename World => wk
              obtain ⟨k, hk, rfl, hBk, hNk⟩ := hrel
              have hBw := hB1.trans (hBk.mono hB1.size)
              by_cases hki : k < i
              · have x0' := (HCI.out wk hBw).1
                have x1 := HNM.out wk hBw k hki
                have hno := HNA.out k hki
                have hne : Hid (¬ (ts[k]'(Nat.lt_trans hki hlt)).n = si.n → ∀ (j : Nat) (hj : j < k + 1) (hji : j < i), (ts[j]'(Nat.lt_trans hji hlt)).n ≠ si.n) := fun h j hj hji => by
                  by_cases e : j = k
                  · subst e; exact h
                  · exact hNk.out j (by omega) hji
                clear HNM HCI HTX HHO HLE HHL HND HN2 HOW hNk HNA
                have hkn := Nat.lt_trans hki hlt
                generalize (ts[k]'(Nat.lt_trans hki hlt)).n = nk at *
                generalize si.n = ni at *
                cases hb : (nk.toList == ni.toList)
                · have q := hne.out (fun e => by rw [e] at hb; simp at hb)
                  clear hno hne
                  have q' : Hid _ := q
                  go_wp2
                  go_quiet (fail)
                  go_wp2
                  go_roundw
                  case rel => exact ⟨k + 1, by omega, by go_num, hBk.trans (rn_drewN _ _ _), q⟩
                  case measure => simp [intOf]; omega
                · obtain rfl := hno (by rw [td_beq, decide_eq_true_iff] at hb; exact hb)
                  clear hno hne
                  go_wp2
                  go_quiet (fail)
                  go_wp2
                  go_ret
                  exact ⟨rfl, hBw.trans (rn_drewN _ _ _)⟩
              · have hki' : k = i := by omega
                subst hki'
                have HN3 : Hid ((hostsTo ts k si.h.length si.h).Nodup → RG ts (k + 1)) := HN2.out (fun j hj => hNk.out j hj hj)
                have O3 : OwnT w.heap.size wk (.slice ao (hostsP (ts.take k)).length cv) (hostsP (ts.take k)) := HOW.out.keep hBk
                have HZ : Hid (hostsTo ts k 0 si.h = hostsP (ts.take k)) := hostsTo_zero ts k si.h
                have HTL : Hid (∀ m, (hostsTo ts k m si.h).length ≤ k * 8 + si.h.length) := fun m => by
                  unfold hostsTo
                  rw [List.length_append, List.length_take]
                  have := HHL.out
                  omega
                clear HN2 hNk HOW HNA HNM HHL
                obtain ⟨_, x1, _⟩ := HCI.out wk hBw
                go_wp2_with fail
                go_loopw [3, 6] (fun v3 v6 wr3 => ∃ (m : Nat) (ao : Option Addr) (cv : Nat), m ≤ si.h.length ∧ v6 = .int .i64 m ∧ v3 = .slice ao (hostsTo ts k m si.h).length cv ∧ Hid (OwnT w.heap.size wr3 (.slice ao (hostsTo ts k m si.h).length cv) (hostsTo ts k m si.h)) ∧ Hid ((hostsTo ts k m si.h).Nodup) ∧ Below w.heap.size w wr3) (fun _ v6 _ => si.h.length - (intOf v6).toNat)
                case atStart => exact ⟨0, ao, cv, Nat.zero_le _, rfl, by rw [HZ.out], by rw [HZ.out]; exact O3, by rw [HZ.out]; exact HND, hBw⟩
                case round =>
                  rename World => wm
                  clear O3 HZ HND x1 hBw hBk
                  obtain ⟨m, ao, cv, hm, rfl, rfl, hOm, hNd, hBm⟩ := hrel
                  obtain ⟨_, x1, _⟩ := HCI.out wm hBm
                  have hTm := HTL.out m
                  by_cases hml : m < si.h.length
                  · have T1 := HTX.out wm hBm
                    obtain ⟨a2, c2, e2, _, _, q3, q4⟩ := T1
                    obtain ⟨rfl, _, rfl⟩ := slice_inj e2
                    obtain ⟨gh, oh, rfl, hgh, hcc⟩ := q4 (by omega)
                    have HXC : Hid (∀ W, Below wm.heap.size wm W → W.cell? ⟨gh, oh + m, none⟩ = some (.string si.h[m]) ∧ W.cell? ⟨g, off + k * 8 + 1, none⟩ = some (.slice (some ⟨gh, oh, none⟩) si.h.length yc)) := fun W b => ⟨(b.cell (p := ⟨gh, _, none⟩) (Nat.lt_of_lt_of_le hgh hBm.size)).trans (hcc m hml), (HCI.out W (hBm.trans (b.mono hBm.size))).2.1⟩
                    have HHM := HHO.out m hml
                    have HSN : Hid (hostsTo ts k (m + 1) si.h = hostsTo ts k m si.h ++ [si.h[m]]) := hostsTo_succ ts k m si.h hml
                    unfold maxLen at q3
                    clear hcc q4 e2
                    generalize si.h[m] = hx at *
                    obtain ⟨L, hL⟩ : ∃ L, L = hostsTo ts k m si.h := ⟨_, rfl⟩
                    rw [← hL] at hOm hNd HHM HSN hTm
                    rw [← hL]
                    clear hL
                    have HHM' : Hid (hx ∈ L → R = false) := HHM
                    have HLT : Hid (Txs wm.heap.size wm (.slice ao L.length cv) L) := hOm.out.txs
                    clear HHM
                    go_wp2_with fail
                    go_loopw [7] (fun v7 wr4 => ∃ j : Nat, j ≤ L.length ∧ v7 = .int .i64 j ∧ Below wm.heap.size wm wr4 ∧ Hid (∀ (t : Nat) (ht : t < L.length), t < j → L[t] ≠ hx)) (fun v7 _ => L.length - (intOf v7).toNat)
                    case atStart => exact ⟨0, Nat.zero_le _, rfl, Below.refl _ _, fun t _ ht => absurd ht (Nat.not_lt_zero _)⟩
                    case round =>
                      rename World => wj
                      obtain ⟨j, hj, rfl, hBj, hNj⟩ := hrel
                      have hBq := hBm.trans (hBj.mono hBm.size)
                      obtain ⟨y1, y2⟩ := HXC.out wj hBj
                      by_cases hjl : j < L.length
                      · obtain ⟨a3, c3, e3, _, _, p3, p4⟩ := HLT.out
                        obtain ⟨rfl, _, rfl⟩ := slice_inj e3
                        obtain ⟨g3, o3, rfl, hg3, hc3⟩ := p4 (by omega)
                        have y3 := (hBj.cell (p := ⟨g3, o3 + j, none⟩) hg3).trans (hc3 j hjl)
                        unfold maxLen at p3
                        have hno : Hid (L[j] = hx → R = false) := fun e => HHM'.out (e ▸ List.getElem_mem hjl)
                        have hne : Hid (¬ L[j] = hx → ∀ (t : Nat) (ht : t < L.length), t < j + 1 → L[t] ≠ hx) := fun h t ht htj => by
                          by_cases e : t = j
                          · subst e; exact h
                          · exact hNj.out t ht (by omega)
                        clear hc3 p4 e3 hNj HXC HHM' HSN hNd hOm HCI HTX HHO HLE HN3 HTL HLT
                        generalize L[j] = lj at *
                        cases hb : (lj.toList == hx.toList)
                        · have q := hne.out (fun e => by rw [e] at hb; simp at hb)
                          have q' : Hid (∀ (t : Nat) (ht : t < L.length), t < j + 1 → L[t] ≠ hx) := q
                          clear hno hne q
                          generalize si.h.length = lh at *
                          go_wp2
                          go_quiet (fail)
                          go_wp2
                          go_roundw
                          case rel => exact ⟨j + 1, by omega, by go_num, hBj.trans (rn_drewN _ _ _), q'⟩
                          case measure => simp [intOf]; omega
                        · obtain rfl := hno.out (by rw [td_beq, decide_eq_true_iff] at hb; exact hb)
                          clear hno hne
                          generalize si.h.length = lh at *
                          go_wp2
                          go_quiet (fail)
                          go_wp2
                          go_ret
                          exact ⟨rfl, hBq.trans (rn_drewN _ _ _)⟩
                      · have hjl' : j = L.length := by omega
                        subst hjl'
                        have N4 : (L ++ [hx]).Nodup := nodup_snoc hNd.out (fun t ht => hNj.out t ht ht)
                        have own3 := (hOm.out.keep hBj).keep ((Below.refl _ _).alloc (Nat.le_refl _) (.cells #[.string hx] 9))
                        obtain ⟨v4, w4, r4, own4, B4⟩ := ownT_append own3 (one_txs wj hx _ (Nat.lt_succ_self _)) (by simp; omega) (by have := hBq.size; simp; omega)
                        have hB4 : Below w.heap.size w w4 := (hBq.alloc hBq.size _).trans B4
                        obtain ⟨a4, c4, rfl, _⟩ := own4.form
                        rw [← HSN.out] at own4 r4 N4
                        have HO4 : Hid (OwnT w.heap.size w4 (.slice a4 (hostsTo ts k (m + 1) si.h).length c4) (hostsTo ts k (m + 1) si.h)) := own4
                        have HRN : Hid ((Builtin.append_ #[33, 33] 33 #[.slice ao L.length cv, .slice (some ⟨wj.heap.size, 0, none⟩) 1 1]).run Tryz.prog (wj.alloc (.cells #[.string hx] 9)) = .ok (.slice a4 (hostsTo ts k (m + 1) si.h).length c4) w4) := r4
                        have HN4 : Hid (hostsTo ts k (m + 1) si.h).Nodup := N4
                        clear own3 own4 B4 r4 N4 hOm hNd hNj HXC HHM' HSN HCI HTX HHO HLE HN3 HTL HLT
                        go_wp2_with (at_builtin; refine wpList_append_run2 rfl _ _ 33 33 rfl _ _ _ w4 rfl rfl HRN.out ?_)
                        go_roundw
                        case rel => exact ⟨m + 1, a4, c4, by omega, by go_num, rfl, HO4, HN4, hB4⟩
                        case measure => simp [intOf]; omega
                  · have hm' : m = si.h.length := by omega
                    rw [hm'] at hOm hNd
                    have HG4 : Hid (RG ts (k + 1)) := HN3.out hNd.out
                    rw [HLE.out] at hOm
                    have hv : hostsTo ts k m si.h = hostsP (ts.take (k + 1)) := by rw [hm']; exact HLE.out
                    rw [hv]
                    clear HN3 hNd HLE HTL HTX HHO hv hTm HCI
                    generalize si.h.length = lh at *
                    go_wp2
                    go_roundw
                    case rel => exact ⟨k + 1, ao, cv, by omega, by go_num, rfl, hOm, HG4, hBm⟩
                    case measure => simp [intOf]; omega
          · rw [hw] at HO1
            obtain rfl := HON hw
            clear HNA HHO HNX HLE HL8 HHL HND HCI HTX HNM hO HON hw
            go_wp2_with fail
            refine (HO1.out _ hB).mono ?_
            rintro e w1 ⟨rfl, B1⟩
            go_wp2
            go_ret
            exact ⟨rfl, hB.trans (B1.mono hB.size)⟩
        · have hi' : i = ts.length := by omega
          subst hi'
          obtain rfl := HD.out hG.out
          clear HC HUB HD HONE HNAM HHOS hG hO
          go_wp2
          go_ret
          exact ⟨rfl, hB⟩
end Go.Proofs.YthmhaflkkigenaaGreatDoor
