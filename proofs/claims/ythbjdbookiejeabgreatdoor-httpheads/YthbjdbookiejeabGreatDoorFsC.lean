/- List, among and Has: what each answers of fields. -/
import Derived.Test.YthbjdbookiejeabGreatDoorFrA
namespace Go.Proofs.YthbjdbookiejeabGreatDoor
open Go.ChangeShapes Go.WideShapes Go.ChangeAt Go.RowKit
set_option linter.unusedVariables false

theorem splT_len (s : ByteArray) : (splT s).length ≤ s.size + 2 := Nat.le_trans (keepT_len _) (pieces_len s)
theorem splA_snoc (xs : List ByteArray) (x : ByteArray) : splA (xs ++ [x]) = splA xs ++ splT x := by unfold splA; rw [List.flatMap_append]; simp
theorem splA_len (N : Nat) : ∀ xs : List ByteArray, TBd N xs → (splA xs).length ≤ xs.length * (N + 2)
  | [], _ => by simp [splA]
  | x :: l, h => by
    have ih := splA_len N l (fun y hy => h y (List.mem_cons_of_mem _ hy))
    have h1 := h x (List.mem_cons_self ..)
    have h2 := splT_len x
    have e : splA (x :: l) = splT x ++ splA l := rfl
    rw [e, List.length_append, List.length_cons, Nat.add_mul]
    omega
theorem splA_take (xs : List ByteArray) (k : Nat) : (splA (xs.take k)).length ≤ (splA xs).length := by
  have e : splA xs = splA (xs.take k) ++ splA (xs.drop k) := by
    unfold splA
    rw [← List.flatMap_append, List.take_append_drop]
  rw [e, List.length_append]; omega
theorem trimP_mem {N : Nat} {p : ByteArray} (h : p.size ≤ N) : (trimT p).size ≤ N := Nat.le_trans (trimT_size p) h
theorem splT_bd {N : Nat} {s : ByteArray} (h : s.size ≤ N) : TBd N (splT s) := by
  intro x hx
  unfold splT keepT at hx
  obtain ⟨p, hp, rfl⟩ := List.mem_map.1 (List.mem_filter.1 hx).1
  exact trimP_mem (Nat.le_trans (pieces_size s p hp) h)
theorem listF_bd {N : Nat} {fs : Fs} {n : ByteArray} (h : FBd N fs) : TBd N (listF fs n) := by
  intro x hx
  obtain ⟨y, hy, hxy⟩ := listF_mem hx
  exact splT_bd (getF_bd h y hy) x hxy
theorem listF_len {N M : Nat} {fs : Fs} {n : ByteArray} (h : FBd N fs) (hl : fs.length ≤ M) : (listF fs n).length ≤ M * (N + 2) :=
  Nat.le_trans (splA_len N _ (getF_bd h)) (Nat.mul_le_mul_right _ (Nat.le_trans (getF_len fs n) hl))
theorem FBd.mono {N M : Nat} {fs : Fs} (h : FBd N fs) (k : N ≤ M) : FBd M fs := fun f hf => ⟨Nat.le_trans (h f hf).1 k, Nat.le_trans (h f hf).2 k⟩

set_option maxRecDepth 100000 in
set_option maxHeartbeats 1000000 in
theorem list_any (fs : Fs) (a : Option Addr) (c : Nat) (name : ByteArray) (w : World) (hf : Fds w.heap.size w (.slice a fs.length c) fs) (hb : FBd 1048576 fs) (hn : name.size ≤ 1048576) (hl : fs.length ≤ 1024) (hM : MaxL w) :
    Calls Tryz.prog 96 #[.slice a fs.length c, .string name] w fun e w' => ∃ ao cv, e = .returned (.slice ao (listF fs name).length cv) ∧ OwnT w.heap.size w' (.slice ao (listF fs name).length cv) (listF fs name) ∧ Below w.heap.size w w' := by
  have HG : Hid (Calls Tryz.prog 41 #[.slice a fs.length c, .string name] w fun e w' => ∃ ao cv, e = .returned (.slice ao (getF fs name).length cv) ∧ OwnT w.heap.size w' (.slice ao (getF fs name).length cv) (getF fs name) ∧ Below w.heap.size w w') := get_any fs a c name w hf (hb.mono (by decide)) (by omega) (by omega)
  have HT : Hid ((splA (getF fs name)).length ≤ 1024 * 1048578) := listF_len hb hl
  have HV : Hid (TBd 1048576 (getF fs name)) := getF_bd hb
  have HVL : Hid ((getF fs name).length ≤ 1024) := Nat.le_trans (getF_len _ _) hl
  have e0 : listF fs name = splA (getF fs name) := rfl
  rw [e0]
  clear e0 hf hb hn hl
  generalize getF fs name = vs at *
  go_enter Tryz.func96, Tryz.ntmps96
  go_wp2_with fail
  refine HG.out.mono ?_
  rintro e w1 ⟨ao1, cv1, rfl, own1, B1⟩
  have M1 := hM.below B1
  have T1 := own1.txs
  clear HG hM own1
  rcases Nat.eq_zero_or_pos vs.length with h0 | hp
  · have he : vs = [] := List.eq_nil_of_length_eq_zero h0
    subst he
    clear T1 h0
    go_wp2_with fail
    refine wp_loop_rounds 1 ?_
    rw [rounds_succ]
    go_wp2
    go_ret
    exact ⟨none, 0, rfl, OwnT.nil _ _, B1⟩
  · obtain ⟨a', c', e, hnil, h1, h2, h3⟩ := T1
    obtain ⟨rfl, _, rfl⟩ := slice_inj e
    obtain ⟨g, off, rfl, hg, hc⟩ := h3 hp
    have HC : Hid (∀ (j : Nat) (hj : j < vs.length), w1.cell? ⟨g, off + j, none⟩ = some (.string vs[j])) := hc
    clear e hnil h1 h2 h3 hc
    have hvl := HVL.out
    go_wp2_with fail
    go_loopw [5, 12] (fun v vi wr => ∃ (k : Nat) (ao : Option Addr) (cv : Nat), k ≤ vs.length ∧ vi = .int .i64 k ∧ v = .slice ao (splA (vs.take k)).length cv ∧ OwnT w1.heap.size wr v (splA (vs.take k)) ∧ Below w1.heap.size w1 wr) (fun _ vi _ => vs.length - (intOf vi).toNat)
    case atStart => exact ⟨0, none, 0, Nat.zero_le _, rfl, rfl, OwnT.nil _ _, Below.refl _ _⟩
    case round =>
      obtain ⟨k, ao, cv, hk, rfl, rfl, hown, hB⟩ := hrel
      by_cases hlt : k < vs.length
      · have hc1 := (hB.cell (p := ⟨g, off + k, none⟩) hg).trans (HC.out k hlt)
        have hsz : Hid (vs[k].size ≤ 1048576) := HV.out vs[k] (List.getElem_mem hlt)
        have hsn : Hid (splA (vs.take (k + 1)) = splA (vs.take k) ++ splT vs[k]) := by
          rw [Hid, List.take_succ_eq_append_getElem hlt, splA_snoc]
        have hkl : Hid ((splA (vs.take (k + 1))).length ≤ 1024 * 1048578) := Nat.le_trans (splA_take vs (k + 1)) HT.out
        generalize vs[k] = x at *
        have HO : Hid (OwnT w1.heap.size wr (.slice ao (splA (vs.take k)).length cv) (splA (vs.take k))) := hown
        clear hown
        generalize splA (vs.take k) = K at *
        go_wp2_with fail
        refine (split_any x _ (by have := hsz.out; omega) (pieces_length x) (fun p hp => by have := hsz.out; have := pieces_size x p hp; omega) (M1.below hB)).mono ?_
        rintro e w2 ⟨ao2, cv2, rfl, own2, B2⟩
        have own2' : OwnT (wr.heap.size + 1) w2 (.slice ao2 (splT x).length cv2) (splT x) := own2
        have ownK := HO.out.keep B2
        have hB2 := hB.trans (B2.mono hB.size)
        obtain ⟨v4, w4, r4, own4, B4⟩ := ownT_append ownK own2'.txs (by have := hkl.out; rw [hsn.out, List.length_append] at this; omega) hB2.size
        have hB4 : Below w1.heap.size w1 w4 := hB2.trans B4
        obtain ⟨a4, c4, rfl, _⟩ := own4.form
        have HO4 : Hid (OwnT w1.heap.size w4 (.slice a4 (K ++ splT x).length c4) (K ++ splT x)) := own4
        have HR : Hid ((Builtin.append_ #[39, 39] 39 #[.slice ao K.length cv, .slice ao2 (keepT (pieces x)).length cv2]).run Tryz.prog w2 = .ok (.slice a4 (K ++ splT x).length c4) w4) := r4
        clear own2 own2' ownK own4 B2 B4 hB2 hB r4 hc1 HO
        have HL : Hid ((K ++ splT x).length = (splA (vs.take (k + 1))).length) := by rw [Hid, hsn.out]
        generalize (K ++ splT x).length = L at *
        generalize (keepT (pieces x)).length = L2 at *
        go_wp2_with (at_builtin; refine wpList_append_run2 rfl _ _ 39 39 rfl _ _ _ w4 rfl rfl HR.out ?_)
        go_roundw
        case rel => exact ⟨k + 1, a4, c4, by omega, by go_num, by rw [HL.out], by rw [hsn.out]; exact HO4.out, hB4⟩
        case measure => simp [intOf]; omega
      · go_wp2
        go_ret
        have hk' : k = vs.length := by omega
        subst hk'
        rw [List.take_length] at *
        exact ⟨ao, cv, rfl, hown.mono B1.size, B1.trans (hB.mono B1.size)⟩

/-- among's closure. -/
theorem among1_any (x s : ByteArray) (p : Nat) (w : World) (h1 : w.heap[p]? = some (.cells #[.string s] 9)) (hx : x.size ≤ maxLen) (hs : s.size ≤ maxLen) :
    Calls Tryz.prog 128 #[.string x, .pointer (some ⟨p, 0, none⟩)] w fun e w' => e = .returned (.bool (smT x s)) ∧ Below w.heap.size w w' := by
  have c1 : w.cell? ⟨p, 0, none⟩ = some (.string s) := tblk_cell h1 rfl
  have HS : Hid (Calls Tryz.prog 73 #[.string x, .string s] w fun e w' => e = .returned (.bool (smT x s)) ∧ Below w.heap.size w w') := same_sm x s w hx hs
  clear h1 hx hs
  go_enter Tryz.func128, Tryz.ntmps128
  go_wp2_with fail
  refine HS.out.mono ?_
  rintro e w2 ⟨rfl, B2⟩
  go_wp2
  go_ret
  exact ⟨rfl, B2⟩
theorem anyT_at {xs : List ByteArray} {s : ByteArray} (k : Nat) (h : k < xs.length) (hs : smT xs[k] s = true) : anyT xs s = true := by
  unfold anyT
  rw [List.any_eq_true]
  exact ⟨xs[k], List.getElem_mem h, hs⟩
theorem anyT_snoc {xs : List ByteArray} {s : ByteArray} {k : Nat} (h : k < xs.length) (h0 : anyT (xs.take k) s = false) (hs : smT xs[k] s = false) : anyT (xs.take (k + 1)) s = false := by
  rw [List.take_succ_eq_append_getElem h]
  unfold anyT at *
  rw [List.any_append, h0]
  simp [hs]

set_option maxRecDepth 100000 in
set_option maxHeartbeats 1000000 in
theorem idx_any (xs : List ByteArray) (a : Option Addr) (c : Nat) (s : ByteArray) (p : Nat) (w : World) (hx : Txs w.heap.size w (.slice a xs.length c) xs) (hb : TBd 140737488355328 xs) (hs : s.size ≤ 140737488355328) (h1 : w.heap[p]? = some (.cells #[.string s] 9)) :
    Calls Tryz.prog 156 #[.slice a xs.length c, .func (.func 128) #[] #[.pointer (some ⟨p, 0, none⟩)]] w fun e w' => ∃ i : Int, e = .returned (.int .i64 i) ∧ -1 ≤ i ∧ (decide (0 ≤ i) = anyT xs s) ∧ Below w.heap.size w w' := by
  have hlm := hx.len
  unfold maxLen at hlm
  have HS : Hid (s.size ≤ maxLen) := by rw [Hid]; unfold maxLen; omega
  rcases Nat.eq_zero_or_pos xs.length with h0 | hp
  · have he : xs = [] := List.eq_nil_of_length_eq_zero h0
    subst he
    clear hx hb h0 hlm HS hs
    go_enter Tryz.func156, Tryz.ntmps156
    go_wp2_with fail
    refine wp_loop_rounds 1 ?_
    rw [rounds_succ]
    go_wp2
    go_ret
    exact ⟨-1, rfl, Int.le_refl _, rfl, Below.refl _ _⟩
  · obtain ⟨a', c', e, hnil, q1, q2, q3⟩ := hx
    obtain ⟨rfl, _, rfl⟩ := slice_inj e
    obtain ⟨g, off, rfl, hg, hc⟩ := q3 hp
    have HC : Hid (∀ (j : Nat) (hj : j < xs.length), w.cell? ⟨g, off + j, none⟩ = some (.string xs[j])) := hc
    have HBD : Hid (TBd 140737488355328 xs) := hb
    have H1 : Hid (w.heap[p]? = some (.cells #[.string s] 9)) := h1
    have hln : xs.length ≤ 9223372036854775807 := by omega
    clear e hnil q1 q2 q3 hlm hc hb hs h1
    go_enter Tryz.func156, Tryz.ntmps156
    go_wp2_with fail
    go_loopw [8] (fun vi wr => ∃ k : Nat, k ≤ xs.length ∧ vi = .int .i64 k ∧ Hid (anyT (xs.take k) s = false) ∧ Below w.heap.size w wr) (fun vi _ => xs.length - (intOf vi).toNat)
    case atStart => exact ⟨0, Nat.zero_le _, rfl, rfl, Below.refl _ _⟩
    case round =>
      obtain ⟨k, hk, rfl, hA, hB⟩ := hrel
      by_cases hlt : k < xs.length
      · have hc1 := (hB.cell (p := ⟨g, off + k, none⟩) hg).trans (HC.out k hlt)
        have hsz := HBD.out xs[k] (List.getElem_mem hlt)
        have hs1 : Hid (xs[k].size ≤ maxLen) := by rw [Hid]; unfold maxLen; omega
        have HA : Hid (∀ W, W.heap[p]? = some (.cells #[.string s] 9) → Calls Tryz.prog 128 #[.string xs[k], .pointer (some ⟨p, 0, none⟩)] W fun e w' => e = .returned (.bool (smT xs[k] s)) ∧ Below W.heap.size W w') := fun W hW => among1_any _ s p W hW hs1.out HS.out
        have hY : Hid (smT xs[k] s = true → anyT xs s = true) := fun q => anyT_at k hlt q
        have hN : Hid (smT xs[k] s = false → anyT (xs.take (k + 1)) s = false) := fun q => anyT_snoc hlt hA.out q
        have hpw : Hid (wr.heap[p]? = some (.cells #[.string s] 9)) := (hB.block p (heap_lt H1.out)).trans H1.out
        generalize smT xs[k] s = b at *
        clear hsz hs1
        generalize xs[k] = x at *
        go_wp2_with fail
        refine (HA.out _ hpw.out).mono ?_
        rintro e w2 ⟨rfl, B2⟩
        have hB2 := hB.trans (B2.mono hB.size)
        clear HA hpw hB B2 hc1
        cases b
        · have hN2 : Hid (anyT (xs.take (k + 1)) s = false) := hN.out rfl
          clear hN hY
          go_wp2
          go_roundw
          case rel => exact ⟨k + 1, by omega, by go_num, hN2, hB2⟩
          case measure => simp [intOf]; omega
        · have hY2 : Hid (anyT xs s = true) := hY.out rfl
          clear hN hY
          go_wp2
          go_ret
          exact ⟨k, rfl, by omega, by rw [hY2.out]; simp, hB2⟩
      · go_wp2
        go_ret
        have hk' : k = xs.length := by omega
        subst hk'
        have h := hA.out
        rw [List.take_length] at h
        exact ⟨-1, rfl, Int.le_refl _, by rw [h]; rfl, hB⟩

set_option maxHeartbeats 1000000 in
theorem cont_any (xs : List ByteArray) (a : Option Addr) (c : Nat) (s : ByteArray) (p : Nat) (w : World) (hx : Txs w.heap.size w (.slice a xs.length c) xs) (hb : TBd 140737488355328 xs) (hs : s.size ≤ 140737488355328) (h1 : w.heap[p]? = some (.cells #[.string s] 9)) :
    Calls Tryz.prog 127 #[.slice a xs.length c, .func (.func 128) #[] #[.pointer (some ⟨p, 0, none⟩)]] w fun e w' => e = .returned (.bool (anyT xs s)) ∧ Below w.heap.size w w' := by
  have HI : Hid (Calls Tryz.prog 156 #[.slice a xs.length c, .func (.func 128) #[] #[.pointer (some ⟨p, 0, none⟩)]] w fun e w' => ∃ i : Int, e = .returned (.int .i64 i) ∧ -1 ≤ i ∧ (decide (0 ≤ i) = anyT xs s) ∧ Below w.heap.size w w') := idx_any xs a c s p w hx hb hs h1
  clear hx hb hs h1
  generalize anyT xs s = t at *
  go_enter Tryz.func127, Tryz.ntmps127
  go_wp2_with fail
  refine HI.out.mono ?_
  rintro e w2 ⟨i, rfl, hi, hd, B2⟩
  have HD : Hid (decide (0 ≤ i) = t) := hd
  clear hd HI
  go_wp2
  go_ret
  exact ⟨ret_bool HD.out, B2⟩

set_option maxHeartbeats 1000000 in
theorem amongT_any (s : ByteArray) (xs : List ByteArray) (a : Option Addr) (c : Nat) (w : World) (hx : Txs w.heap.size w (.slice a xs.length c) xs) (hb : TBd 140737488355328 xs) (hs : s.size ≤ 140737488355328) :
    Calls Tryz.prog 95 #[.string s, .slice a xs.length c] w fun e w' => e = .returned (.bool (anyT xs s)) ∧ Below w.heap.size w w' := by
  have hmf : ∀ (fn : Fn) (first cap : Array Value) (w : World), (Instr.makeFunc fn first cap).run Tryz.prog w = .ok (.func fn first cap) w := fun _ _ _ _ => rfl
  have C1 : Below w.heap.size w (w.alloc (.cells #[.string s] 9)) := (Below.refl _ _).alloc (Nat.le_refl _) _
  have HC : Hid (Calls Tryz.prog 127 #[.slice a xs.length c, .func (.func 128) #[] #[.pointer (some ⟨w.heap.size, 0, none⟩)]] (w.alloc (.cells #[.string s] 9)) fun e w' => e = .returned (.bool (anyT xs s)) ∧ Below (w.alloc (.cells #[.string s] 9)).heap.size (w.alloc (.cells #[.string s] 9)) w') := cont_any xs a c s w.heap.size _ ((hx.keep C1).mono C1.size) hb hs (tblk_new _ _)
  clear hx hb hs
  go_enter Tryz.func95, Tryz.ntmps95
  go_wp2_with fail
  refine HC.out.mono ?_
  rintro e w2 ⟨rfl, B2⟩
  go_wp2
  go_ret
  exact ⟨rfl, C1.trans (B2.mono C1.size)⟩

set_option maxHeartbeats 1000000 in
theorem has_any (fs : Fs) (a : Option Addr) (c : Nat) (name part : ByteArray) (w : World) (hf : Fds w.heap.size w (.slice a fs.length c) fs) (hb : FBd 1048576 fs) (hn : name.size ≤ 1048576) (hq : part.size ≤ 1048576) (hl : fs.length ≤ 1024) (hM : MaxL w) :
    Calls Tryz.prog 63 #[.slice a fs.length c, .string name, .string part] w fun e w' => e = .returned (.bool (hasF fs name part)) ∧ Below w.heap.size w w' := by
  have HL : Hid (Calls Tryz.prog 96 #[.slice a fs.length c, .string name] w fun e w' => ∃ ao cv, e = .returned (.slice ao (listF fs name).length cv) ∧ OwnT w.heap.size w' (.slice ao (listF fs name).length cv) (listF fs name) ∧ Below w.heap.size w w') := list_any fs a c name w hf hb hn hl hM
  have HB : Hid (TBd 140737488355328 (listF fs name)) := fun x hx => Nat.le_trans (listF_bd hb x hx) (by decide)
  have hs : Hid (part.size ≤ 140737488355328) := by rw [Hid]; omega
  unfold hasF
  clear hf hb hn hq hl hM
  generalize listF fs name = xs at *
  go_enter Tryz.func63, Tryz.ntmps63
  go_wp2_with fail
  refine HL.out.mono ?_
  rintro e w1 ⟨ao, cv, rfl, own1, B1⟩
  have HA : Hid (Calls Tryz.prog 95 #[.string part, .slice ao xs.length cv] w1 fun e w' => e = .returned (.bool (anyT xs part)) ∧ Below w1.heap.size w1 w') := amongT_any part xs ao cv w1 own1.txs HB.out hs.out
  clear HL HB own1
  go_wp2_with fail
  refine HA.out.mono ?_
  rintro e w2 ⟨rfl, B2⟩
  go_wp2
  go_ret
  exact ⟨rfl, B1.trans (B2.mono B1.size)⟩
end Go.Proofs.YthbjdbookiejeabGreatDoor
