/- slices.DeleteFunc of one number. -/
import Derived.Test.YtlaigjapnmgjeaaPoB
import Derived.Lib.SliceRun
namespace Go.Proofs.Ytlaigjapnmgjeaa
open Go.RowKit
set_option linter.unusedVariables false

theorem setCellsI_heap (g : Nat) : ∀ (vs : List Value) (o : Nat) (w : World) (cur : Array Value), w.heap[g]? = some (.cells cur 3) → o + vs.length ≤ cur.size → ∃ cur' : Array Value, (w.setCells g o vs).heap[g]? = some (.cells cur' 3) ∧ cur'.size = cur.size ∧ ∀ j, j < o → cur'[j]? = cur[j]?
  | [], o, w, cur, h, _ => ⟨cur, h, rfl, fun _ _ => rfl⟩
  | v :: r, o, w, cur, h, hs => by
    have hs' : o + (r.length + 1) ≤ cur.size := hs
    have k := ni_set (v := v) h (show o < cur.size by omega)
    obtain ⟨cur', h1, h2, h3⟩ := setCellsI_heap g r (o + 1) _ _ k (by rw [Array.size_setIfInBounds]; omega)
    refine ⟨cur', h1, by rw [h2, Array.size_setIfInBounds], fun j hj => ?_⟩
    rw [h3 j (by omega), Array.getElem?_setIfInBounds, if_neg (by omega)]
/-- One block may turn. -/
structure Ex1 (b : Nat) (w w' : World) : Prop where
  os : w'.os = w.os
  tape : w'.tape = w.tape
  output : w'.output = w.output
  size : w.heap.size ≤ w'.heap.size
  block : ∀ k, k < w.heap.size → k ≠ b → w'.heap[k]? = w.heap[k]?
theorem Ex1.refl (b : Nat) (w : World) : Ex1 b w w := ⟨rfl, rfl, rfl, Nat.le_refl _, fun _ _ _ => rfl⟩
theorem Ex1.trans {b : Nat} {u v w : World} (h : Ex1 b u v) (k : Ex1 b v w) : Ex1 b u w :=
  ⟨k.os.trans h.os, k.tape.trans h.tape, k.output.trans h.output, Nat.le_trans h.size k.size, fun i hi hb => (k.block i (Nat.lt_of_lt_of_le hi h.size) hb).trans (h.block i hi hb)⟩
theorem Ex1.set {b : Nat} {u v : World} (h : Ex1 b u v) (o : Nat) (x : Value) : Ex1 b u (v.setCell ⟨b, o, none⟩ x) :=
  ⟨h.os, h.tape, h.output, by simpa [World.setCell] using h.size, fun i hi hb => (Below.heap_setCell _ _ _ _ hb).trans (h.block i hi hb)⟩
theorem Ex1.setCells {b : Nat} {u : World} : ∀ (vs : List Value) (o : Nat) {v : World}, Ex1 b u v → Ex1 b u (v.setCells b o vs)
  | [], o, v, h => h
  | x :: r, o, v, h => Ex1.setCells r (o + 1) (h.set o x)
/-- The row's end cleared. -/
theorem clear_endI {w : World} {g c : Nat} {l : List Int} (h : NI w g c l) (k : Nat) (hk : k < l.length) (cc : Nat) (ty : TypeId) : ∃ w', (Builtin.clear_ #[76] ty #[.slice (some ⟨g, k, none⟩) (l.length - k) cc]).run Try.prog w = .ok (.tuple #[]) w' ∧ NI w' g c (l.take k) ∧ Ex1 g w w' := by
  have hr := Lib.run_clear_slice (P := Try.prog) w 76 3 ty (.int .i64 0) Try.underlying76 Try.zeroValue3 rfl rfl g k (l.length - k) cc (by omega) (fun j hj => by rw [h.at (k + j) (by omega)]; rfl) (fun j hj => h.z _)
  refine ⟨_, hr, ?_, Ex1.setCells _ _ (Ex1.refl _ _)⟩
  obtain ⟨cur, h1, h2, h3, h4⟩ := h
  obtain ⟨cur', e1, e2, e3⟩ := setCellsI_heap g (List.replicate (l.length - k) (.int .i64 0)) k w cur h1 (by rw [List.length_replicate]; omega)
  refine ⟨cur', e1, by omega, Nat.le_trans (List.length_take_le' _ _) h3, fun j hj => ?_⟩
  have hj2 : j < k ∧ j < l.length := by rw [List.length_take] at hj; omega
  have e : (l.take k).getD j 0 = l.getD j 0 := by simp [List.getD_eq_getElem?_getD, hj2.1]
  rw [e, e3 _ (by omega)]
  exact h4 j hj2.2
theorem wpList_clear_run {P : Program} {w : World} {ops : Array Oper} {rest : List Oper} {o : Oper} {a : Act} {Q : Exit → Act → World → Prop} (hgd : o.guard = none) (s : Operand) (t : TypeId)
    (ho : o.op = .call { callee := .builtin .clear, args := #[s], argTypes := #[t] }) (vs v' : Value) (w' : World) (hs : a.eval s = vs) (hr : (Builtin.clear_ #[t] o.type #[vs]).run P w = .ok v' w')
    (h : wpList P ops Q rest (a.put o.dst v') w') : wpList P ops Q (o :: rest) a w := by
  refine wpList_plain hgd fun K hK => ?_
  unfold Oper.wp execOp
  simp only [ho, resolve, invoke, builtin, Sem.run_bind, Sem.run_pure, Result.andThen_ok, List.map_toArray, List.map_cons, List.map_nil, hs, hr]
  exact hK _ _ h
theorem ex_cell {b : Nat} {w w' : World} (x : Ex1 b w w') {p : Nat} {v : Value} (hp : w.cell? ⟨p, 0, none⟩ = some v) (hne : p ≠ b) : w'.cell? ⟨p, 0, none⟩ = some v := by
  have hl : p < w.heap.size := by
    rcases Nat.lt_or_ge p w.heap.size with c | c
    · exact c
    · unfold World.cell? at hp
      simp [Array.getElem?_eq_none c] at hp
  unfold World.cell? at *
  rw [x.block p hl hne]; exact hp
set_option maxRecDepth 100000 in
set_option maxHeartbeats 4000000 in
theorem delints_any (h : Int) (p : Nat) (s : List Int) (g c : Nat) (w : World) (hl : s.length ≤ 1000000) (hF : NI w g c s) (hp : w.cell? ⟨p, 0, none⟩ = some (.int .i64 h)) (hpg : p ≠ g) (hc : c ≤ 9223372036854775807) :
    Calls Try.prog 44 #[.slice (some ⟨g, 0, none⟩) s.length c, .func (.func 45) #[] #[.pointer (some ⟨p, 0, none⟩)]] w fun e w' => e = .returned (.slice (some ⟨g, 0, none⟩) (s.filter (butH h)).length c) ∧ NI w' g c (s.filter (butH h)) ∧ Ex1 g w w' := by
  have HQ : Hid (∀ (x : Int) (W : World), W.cell? ⟨p, 0, none⟩ = some (.int .i64 h) → Calls Try.prog 45 #[.int .i64 x, .pointer (some ⟨p, 0, none⟩)] W fun e w' => e = .returned (.bool (x == h)) ∧ W = w') := fun x W hW => forget1_any x h p W hW
  have HI := hidE (idxints_any h p s g c w hl hF hp)
  have HS0 := hidE hF
  have HP := hidE hp
  have hlc := hF.len
  obtain ⟨n, hn⟩ : ∃ n, n = s.length := ⟨_, rfl⟩
  have HN : Hid (s.length = n) := hn.symm
  rw [← hn] at hl hlc HI ⊢
  clear hn hF hp
  go_enter Try.func44, Try.ntmps44
  go_wp2_with fail
  refine HI.out.mono ?_
  rintro e w1 ⟨r, rfl, hr, rfl⟩
  clear HI
  rcases hr with ⟨rfl, hall⟩ | ⟨k, hk, rfl, hno, hall⟩
  · have HE1 : Hid (s.filter (butH h) = s) := filterI_all hall
    clear hall
    go_wp2
    go_ret
    exact ⟨by rw [HE1.out, HN.out]; rfl, by rw [HE1.out]; exact HS0.out, Ex1.refl _ _⟩
  · have hkn : k < n := by rw [← HN.out]; exact hk
    have hk1 : ((k : Int) == -1) = false := by simp
    have HE0 : Hid ((s.take (k + 1)).filter (butH h) = s.take k) := by rw [Hid, filterI_no hk hno]; exact takeI_all (by omega) hall
    have HM0 : Hid (MvI s s (k + 1) ((s.take (k + 1)).filter (butH h))) := by
      have hl : (s.take k).length = k := by rw [List.length_take]; omega
      rw [HE0.out]
      exact ⟨rfl, by rw [hl], by rw [hl]; omega, fun _ _ => rfl⟩
    have HK0 : Hid (((s.take (k + 1)).filter (butH h)).length = k) := by rw [HE0.out, Hid, List.length_take]; omega
    clear hno hall hk HE0
    go_wp2_with fail
    go_loopw [5, 6] (fun vk v2 wr => ∃ (i kk : Nat) (M : List Int), 1 ≤ i ∧ i ≤ n ∧ v2 = .int .i64 i ∧ vk = .int .i64 kk ∧ Hid (((s.take i).filter (butH h)).length = kk) ∧ Hid (NI wr g c M) ∧ Hid (MvI s M i ((s.take i).filter (butH h))) ∧ Hid (Ex1 g w wr)) (fun _ v2 _ => n - (intOf v2).toNat)
    case atStart => exact ⟨k + 1, k, s, by omega, by omega, by go_num, rfl, HK0, HS0, HM0, Ex1.refl _ _⟩
    case round =>
      clear HM0 HK0 hkn hk1
      obtain ⟨i, kk, M, hi1, hin, rfl, rfl, HKK, HS, HM, HX0⟩ := hrel
      have hkk : kk < i := by have := HM.out.2.2.1; rw [HKK.out] at this; exact this
      have HML : Hid (M.length = n) := HM.out.1.trans HN.out
      by_cases hlt : i < n
      · have hil : i < M.length := by rw [HML.out]; exact hlt
        have c0 := HS.out.at i hil
        rw [HM.out.2.2.2 i (by omega)] at c0
        have HY : Hid ((s.getD i 0 == h) = true → (s.take (i + 1)).filter (butH h) = (s.take i).filter (butH h)) := fun q => filterI_no (by rw [HN.out]; exact hlt) (by unfold butH; rw [q]; rfl)
        have HNO : Hid ((s.getD i 0 == h) = false → (s.take (i + 1)).filter (butH h) = (s.take i).filter (butH h) ++ [s.getD i 0]) := fun q => filterI_yes (by rw [HN.out]; exact hlt) (by unfold butH; rw [q]; rfl)
        have m1 : (0 : Int) ≤ i := by omega
        have m2 : (i : Int) < n := by omega
        have m6 : (0 : Int) ≤ kk := by omega
        have m7 : (kk : Int) < (n : Int) := by omega
        have HA := hidE (HQ.out (s.getD i 0) wr (ex_cell HX0.out HP.out hpg))
        generalize hb : (s.getD i 0 == h) = b at *
        generalize hx : s.getD i 0 = x at *
        have HX := hidE hx
        clear hb hx
        go_wp2_with fail
        refine HA.out.mono ?_
        rintro e w' ⟨rfl, rfl⟩
        clear HA c0
        cases b with
        | true =>
          have HE1 := HY.out rfl
          have HM' : Hid (MvI s M (i + 1) ((s.take (i + 1)).filter (butH h))) := by rw [HE1]; exact HM.out.skip
          have HK' : Hid (((s.take (i + 1)).filter (butH h)).length = kk) := by rw [HE1]; exact HKK.out
          clear HY HNO HM HKK HE1
          go_wp2
          go_roundw
          case rel => exact ⟨i + 1, kk, M, by omega, by omega, by go_num, rfl, HK', HS, HM', HX0⟩
          case measure => simp [intOf]; omega
        | false =>
          have HE1 := HNO.out rfl
          have HM' : Hid (MvI s (M.set kk x) (i + 1) ((s.take (i + 1)).filter (butH h))) := by
            have q := HM.out.move (by rw [HN.out]; exact hlt)
            rw [HX.out, HKK.out] at q
            rw [HE1]; exact q
          have HK' : Hid (((s.take (i + 1)).filter (butH h)).length = kk + 1) := by rw [HE1, Hid, List.length_append, HKK.out]; rfl
          have hkl : kk < M.length := by rw [HML.out]; omega
          have c0 := HS.out.at kk hkl
          have z0 := HS.out.z kk
          have HS2 := hidE (HS.out.set kk hkl x)
          have HX2 := hidE (HX0.out.set kk (.int .i64 x))
          clear HY HNO HM HKK hkl HE1 HS HX0
          go_wp2
          go_roundw
          case rel => exact ⟨i + 1, kk + 1, _, by omega, by omega, by go_num, by go_num, HK', HS2, HM', HX2⟩
          case measure => simp [intOf]; omega
      · obtain rfl : n = i := by omega
        have hkl : kk < M.length := by rw [HML.out]; omega
        have HE1 : Hid (s.take n = s) := by rw [Hid, ← HN.out]; exact List.take_length
        have HO : Hid (M.take kk = s.filter (butH h)) := by have := HM.out.2.1; rw [HKK.out, HE1.out] at this; exact this
        have HKK2 : Hid ((s.filter (butH h)).length = kk) := by have := HKK.out; rw [HE1.out] at this; exact this
        obtain ⟨w2, r2, F2, X2⟩ := clear_endI HS.out kk hkl (c - kk) 0
        rw [HML.out] at r2
        have HF2 : Hid (NI w2 g c (s.filter (butH h))) := by rw [← HO.out]; exact F2
        have HX2 := hidE (HX0.out.trans X2)
        have hck2 : ¬ c = kk := by omega
        have m6 : (0 : Int) ≤ kk := by omega
        have m7 : (kk : Int) ≤ (n : Int) := by omega
        have m8 : (kk : Int) ≤ (c : Int) := by omega
        clear F2 HS X2 HX0 HM hkl HO HKK HE1
        go_wp2_with (at_builtin; refine wpList_clear_run rfl _ 76 rfl _ _ w2 rfl r2 ?_)
        go_ret
        exact ⟨by rw [HKK2.out]; rfl, HF2.out, HX2.out⟩
end Go.Proofs.Ytlaigjapnmgjeaa
