/- The reference's Target and parts. -/
import Derived.Test.YthbjdbookiejeabGreatDoorLqA
import Derived.Test.YthbjdbookiejeabGreatDoorFsA
namespace Go.Proofs.YthbjdbookiejeabGreatDoor
open Go.RowKit
set_option linter.unusedVariables false

theorem tg_yes {c : Int} (h1 : ¬ c ≤ 32) (h2 : ¬ 127 ≤ c) : spanP 33 126 c = true := by unfold spanP; simp; omega
theorem tg_lo {c : Int} (h1 : c ≤ 32) : spanP 33 126 c = false := by unfold spanP; simp; omega
theorem tg_hi {c : Int} (h1 : 127 ≤ c) : spanP 33 126 c = false := by unfold spanP; simp; omega

set_option maxHeartbeats 1000000 in
theorem rtarget_any (s : ByteArray) (w : World) (hs : s.size ≤ maxLen) :
    Calls Tryz.prog 60 #[.string s] w fun e w' => e = .returned (.bool (tgtP s)) ∧ w' = w := by
  unfold maxLen at hs
  unfold tgtP
  go_enter Tryz.func60, Tryz.ntmps60
  go_wp2
  go_loop [3] (fun i => ∃ k : Nat, k ≤ s.size ∧ i = .int .i64 k ∧ Hid (allB (spanP 33 126) (s.data.toList.take k) = true)) (fun i => s.size - (intOf i).toNat)
  case atStart => exact ⟨0, Nat.zero_le _, rfl, rfl⟩
  case round =>
    obtain ⟨k, hk, rfl, hA⟩ := hrel
    by_cases hlt : k < s.size
    · by_cases a : (s[k].toNat : Int) ≤ 32
      · have HC := allB_false (p := spanP 33 126) s k hlt (tg_lo a)
        go_wp2
        go_ret
        exact ⟨ret_b (by simp), rfl⟩
      · have a' : decide ((s[k].toNat : Int) ≤ 32) = false := by simp; omega
        by_cases b : 127 ≤ (s[k].toNat : Int)
        · have HC := allB_false (p := spanP 33 126) s k hlt (tg_hi b)
          clear a
          go_wp2
          go_ret
          exact ⟨ret_b (by simp), rfl⟩
        · have b' : decide (127 ≤ (s[k].toNat : Int)) = false := by simp; omega
          have HC : Hid (allB (spanP 33 126) (s.data.toList.take (k + 1)) = true) := allB_snoc s k hlt hA.out (tg_yes a b)
          clear a b
          go_wp2
          go_round
          case rel => exact ⟨k + 1, by omega, by go_num, HC⟩
          case measure => simp [intOf]; omega
    · have hk' : k = s.size := by omega
      subst hk'
      have h := hA.out
      rw [List.take_of_length_le (show s.data.toList.length ≤ s.size from Nat.le_refl _)] at h
      rcases Nat.eq_zero_or_pos s.size with h0 | h0
      · have h0' : decide ((0 : Int) < (s.size : Int)) = false := decide_eq_false (by omega)
        go_wp2
        go_ret
        exact ⟨ret_b (by first | (simp; done) | (simp; omega)), rfl⟩
      · have h0' : decide ((0 : Int) < (s.size : Int)) = true := decide_eq_true (by omega)
        go_wp2
        go_ret
        exact ⟨ret_b (by first | (simp; done) | (simp; omega)), rfl⟩

theorem ext_mid (s : ByteArray) (f i : Nat) : (s.extract f i).data.toList = (s.data.toList.take i).drop f := by
  rw [Lib.extract_data, List.drop_take]
/-- One text appended. -/
theorem lownT_one {B : Nat} {w : World} {v : Value} {X : List ByteArray} (x : ByteArray) (h : OwnT B w v X) (hmax : X.length + 1 ≤ 4294967296) (hB : B ≤ w.heap.size) :
    ∃ g' c' w', (Builtin.append_ #[39, 39] 39 #[v, .slice (some ⟨w.heap.size, 0, none⟩) 1 1]).run Tryz.prog (w.alloc (.cells #[.string x] 9)) = .ok (.slice (some ⟨g', 0, none⟩) (X ++ [x]).length c') w' ∧
      OwnT B w' (.slice (some ⟨g', 0, none⟩) (X ++ [x]).length c') (X ++ [x]) ∧ Below B w w' := by
  obtain ⟨i, hi, hz0, hz1, hz2⟩ := info_parts info9
  obtain ⟨v', w', hr, q1, q2, q3, q4⟩ := run_append_own_at (P := Tryz.prog) (w.alloc (.cells #[.string x] 9)) B 39 39 9 i (.string ByteArray.empty) 1 16 Tryz.underlying39 hi hz0 hz1 hz2 rfl (by decide) v X.length (X.map Value.string) (h.alloc _) ⟨w.heap.size, 0, none⟩ 1 1 [.string x] rfl
    (fun j u hj => by
      have : j = 0 := by have := (List.getElem?_eq_some_iff.1 hj).1; simpa using this
      subst this
      have : u = .string x := by simpa using hj.symm
      subst this
      rw [addr_add]
      exact tblk_cell (tblk_new _ _) rfl) (rowT_one [x]) (by unfold maxLen; omega) (by omega) (by simp; omega)
  have hq : w'.ownsRow B 9 1 v' (X ++ [x]).length ((X ++ [x]).map Value.string) := by rw [List.length_append, List.map_append]; exact q1
  rcases hq.2 with ⟨_, hz⟩ | ⟨g', c', cur, hv, _⟩
  · rw [List.length_append] at hz
    have : ([x] : List ByteArray).length = 1 := rfl
    omega
  · subst hv
    exact ⟨g', c', w', hr, hq, ((Below.refl _ _).alloc hB _).grown q2 (by simp; omega) (fun q hq => (h.lt q hq).1)⟩

/-- What is found of the parts up to a place. -/
def PtI (s : ByteArray) (f i : Nat) (K : List ByteArray) : Prop := NoB ((s.data.toList.take i).drop f) ∧ partsB s = K ++ (pl (s.data.toList.drop f)).map (fun l => ⟨l.toArray⟩) ∧ K.length ≤ f
theorem ptI_0 (s : ByteArray) : PtI s 0 0 [] := ⟨(fun _ h => by cases h), rfl, Nat.le_refl _⟩
theorem ldrop_at (l : List UInt8) (f i : Nat) (hf : f ≤ i) (hi : i < l.length) : l.drop f = (l.take i).drop f ++ l[i] :: l.drop (i + 1) := by
  have e : l = l.take i ++ l[i] :: l.drop (i + 1) := by
    rw [← List.drop_eq_getElem_cons hi, List.take_append_drop]
  conv => lhs; rw [e]
  rw [List.drop_append_of_le_length (by rw [List.length_take]; omega)]
theorem ptI_no {s : ByteArray} {f i : Nat} {K : List ByteArray} (h : PtI s f i K) (hf : f ≤ i) (hi : i < s.size) (hb : ¬ (s[i].toNat : Int) = 32) : PtI s f (i + 1) K := by
  refine ⟨?_, h.2⟩
  have hi' : i < s.data.toList.length := hi
  rw [List.take_succ_eq_append_getElem hi', List.drop_append_of_le_length (by rw [List.length_take]; omega)]
  intro b hm
  rcases List.mem_append.1 hm with k | k
  · exact h.1 b k
  · rw [List.mem_singleton.1 k]
    intro e
    refine hb ?_
    have : s[i] = 32 := e
    rw [this]; rfl
theorem ptI_hit {s : ByteArray} {f i : Nat} {K : List ByteArray} (h : PtI s f i K) (hf : f ≤ i) (hi : i < s.size) (hb : (s[i].toNat : Int) = 32) : PtI s (i + 1) (i + 1) (K ++ [s.extract f i]) := by
  have hi' : i < s.data.toList.length := hi
  have e32 : s.data.toList[i] = 32 := UInt8.toNat_inj.1 (by have e : (32 : UInt8).toNat = 32 := rfl; have k : (s.data.toList[i].toNat : Int) = 32 := hb; omega)
  refine ⟨?_, ?_, ?_⟩
  · rw [List.drop_eq_nil_of_le (by rw [List.length_take]; omega)]
    intro _ hm
    cases hm
  · rw [h.2.1, ldrop_at _ f i hf hi', e32, pl_hit _ _ h.1, List.map_cons, List.append_assoc, List.singleton_append]
    have e : s.extract f i = ⟨((s.data.toList.take i).drop f).toArray⟩ := ba_eq (ext_mid s f i)
    rw [e]
  · rw [List.length_append]
    have e : [s.extract f i].length = 1 := rfl
    have := h.2.2
    omega
theorem ptI_end {s : ByteArray} {f : Nat} {K : List ByteArray} (h : PtI s f s.size K) : K ++ [s.extract f s.size] = partsB s := by
  have e0 : s.data.toList.take s.size = s.data.toList := List.take_of_length_le (show s.data.toList.length ≤ s.size from Nat.le_refl _)
  have h1 := h.1
  rw [e0] at h1
  rw [h.2.1, pl_no _ h1]
  have e : s.extract f s.size = ⟨(s.data.toList.drop f).toArray⟩ := ba_eq (by rw [ext_mid, e0])
  rw [e]; rfl

set_option maxRecDepth 100000 in
set_option maxHeartbeats 2000000 in
theorem rparts_any (s : ByteArray) (w : World) (hs : s.size ≤ 4294967281) : Calls Tryz.prog 58 #[.string s] w fun e w' => ∃ g c, e = .returned (.slice (some ⟨g, 0, none⟩) (partsB s).length c) ∧ OwnT w.heap.size w' (.slice (some ⟨g, 0, none⟩) (partsB s).length c) (partsB s) ∧ Below w.heap.size w w' := by
  have C0 : Below w.heap.size w (w.alloc (.cells #[] 9)) := (Below.refl _ _).alloc (Nat.le_refl _) _
  go_enter Tryz.func58, Tryz.ntmps58
  go_wp2_with fail
  go_loopw [3, 4, 5] (fun v vf vi wr => ∃ (K : List ByteArray) (f i g cv : Nat), v = .slice (some ⟨g, 0, none⟩) K.length cv ∧ vf = .int .i64 f ∧ vi = .int .i64 i ∧ Hid (OwnT w.heap.size wr v K) ∧ Hid (Below w.heap.size w wr) ∧ ((i ≤ s.size ∧ f ≤ i ∧ Hid (PtI s f i K)) ∨ (i = s.size + 1 ∧ Hid (K = partsB s)))) (fun _ _ vi _ => s.size + 1 - (intOf vi).toNat)
  case atStart => exact ⟨[], 0, 0, w.heap.size, 0, rfl, rfl, rfl, OwnT.empty _ _ (Nat.le_refl _), C0, .inl ⟨Nat.zero_le _, Nat.le_refl _, ptI_0 s⟩⟩
  case round =>
    clear C0
    obtain ⟨K, f, i, g, cv, rfl, rfl, rfl, hO, hB, ⟨hi, hf, hP⟩ | ⟨hi, hP⟩⟩ := hrel
    · have hle : (i : Int) ≤ (s.size : Int) := by omega
      have hKf : K.length ≤ f := hP.out.2.2
      by_cases he : i = s.size
      · subst he
        have hE : Hid (K ++ [s.extract f s.size] = partsB s) := ptI_end hP.out
        have hf' : (f : Int) ≤ (s.size : Int) := by omega
        obtain ⟨g4, c4, w4, r4, o4, b4⟩ := lownT_one (s.extract f s.size) hO.out (by omega) hB.out.size
        have HR : Hid ((Builtin.append_ #[39, 39] 39 #[.slice (some ⟨g, 0, none⟩) K.length cv, .slice (some ⟨wr.heap.size, 0, none⟩) 1 1]).run Tryz.prog (wr.alloc (.cells #[.string (s.extract f s.size)] 9)) = .ok (.slice (some ⟨g4, 0, none⟩) (K ++ [s.extract f s.size]).length c4) w4) := r4
        have HO : Hid (OwnT w.heap.size w4 (.slice (some ⟨g4, 0, none⟩) (K ++ [s.extract f s.size]).length c4) (K ++ [s.extract f s.size])) := o4
        have HB : Hid (Below w.heap.size w w4) := hB.out.trans b4
        clear r4 o4 b4 hO hB hP
        generalize K ++ [s.extract f s.size] = K' at *
        go_wp2_with (at_builtin; refine wpList_append_run2 rfl _ _ 39 39 rfl _ _ _ w4 rfl rfl HR.out ?_)
        go_roundw
        case rel => exact ⟨K', s.size + 1, s.size + 1, g4, c4, rfl, by go_num, by go_num, HO, HB, .inr ⟨rfl, hE⟩⟩
        case measure => simp [intOf]
      · have hlt : i < s.size := by omega
        have he' : ((i : Int) == (s.size : Int)) = false := by simp; omega
        by_cases hb : (s[i].toNat : Int) = 32
        · have hE : Hid (PtI s (i + 1) (i + 1) (K ++ [s.extract f i])) := ptI_hit hP.out hf hlt hb
          have hb' : ((s[i].toNat : Int) == 32) = true := by simp; omega
          have hf' : (f : Int) ≤ (i : Int) := by omega
          obtain ⟨g4, c4, w4, r4, o4, b4⟩ := lownT_one (s.extract f i) hO.out (by omega) hB.out.size
          have HR : Hid ((Builtin.append_ #[39, 39] 39 #[.slice (some ⟨g, 0, none⟩) K.length cv, .slice (some ⟨wr.heap.size, 0, none⟩) 1 1]).run Tryz.prog (wr.alloc (.cells #[.string (s.extract f i)] 9)) = .ok (.slice (some ⟨g4, 0, none⟩) (K ++ [s.extract f i]).length c4) w4) := r4
          have HO : Hid (OwnT w.heap.size w4 (.slice (some ⟨g4, 0, none⟩) (K ++ [s.extract f i]).length c4) (K ++ [s.extract f i])) := o4
          have HB : Hid (Below w.heap.size w w4) := hB.out.trans b4
          clear r4 o4 b4 hO hB hP hb he
          generalize K ++ [s.extract f i] = K' at *
          go_wp2_with (at_builtin; refine wpList_append_run2 rfl _ _ 39 39 rfl _ _ _ w4 rfl rfl HR.out ?_)
          go_roundw
          case rel => exact ⟨K', i + 1, i + 1, g4, c4, rfl, by go_num, by go_num, HO, HB, .inl ⟨hlt, Nat.le_refl _, hE⟩⟩
          case measure => simp [intOf]; omega
        · have hE : Hid (PtI s f (i + 1) K) := ptI_no hP.out hf hlt hb
          have hb' : ((s[i].toNat : Int) == 32) = false := by simp; omega
          clear hP hb he
          go_wp2
          go_roundw
          case rel => exact ⟨K, f, i + 1, g, cv, rfl, rfl, by go_num, hO, hB, .inl ⟨hlt, by omega, hE⟩⟩
          case measure => simp [intOf]; omega
    · subst hi
      have hle : decide (((s.size + 1 : Nat) : Int) ≤ (s.size : Int)) = false := by simp; omega
      obtain rfl := hP.out
      clear hP
      go_wp2
      go_ret
      exact ⟨g, cv, rfl, hO.out, hB.out⟩
end Go.Proofs.YthbjdbookiejeabGreatDoor
