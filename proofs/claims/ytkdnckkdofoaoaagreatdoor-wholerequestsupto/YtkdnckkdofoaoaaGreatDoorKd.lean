/- Texts that the proof leans on, one behind the other: TxtB CutA FsA FsB FrA FsC FsN FsS -/
import Derived.Test.YtkdnckkdofoaoaaGreatDoorKc
import Derived.Test.YtkdnckkdofoaoaaGreatDoorKa
import Derived.Lib.SplitLaws
import Derived.Test.YtkdnckkdofoaoaaGreatDoorKb
import Derived.Deep.SlicePairs
import Derived.Deep.QuietTactic
/- Trim and Split: what each answers of every text. -/
namespace Go.Proofs.YtkdnckkdofoaoaaGreatDoor
open Go.RowKit
set_option linter.unusedVariables false

/-- The parts of a list. -/
def comma : ByteArray := ⟨#[44]⟩
def pieces (s : ByteArray) : List ByteArray := Lib.splitB ⟨#[44]⟩ 0 (Lib.countB s ⟨#[44]⟩) s
def keepT (ps : List ByteArray) : List ByteArray := (ps.map trimT).filter fun p => !decide (p.size = 0)
theorem keepT_snoc (ps : List ByteArray) (p : ByteArray) : keepT (ps ++ [p]) = keepT ps ++ (if (trimT p).size = 0 then [] else [trimT p]) := by
  unfold keepT
  rw [List.map_append, List.filter_append]
  congr 1
  by_cases h : (trimT p).size = 0
  · rw [if_pos h]
    simp only [List.map_cons, List.map_nil, List.filter_cons, List.filter_nil, decide_eq_true h, Bool.not_true, Bool.false_eq_true, if_false]
  · rw [if_neg h]
    simp only [List.map_cons, List.map_nil, List.filter_cons, List.filter_nil, decide_eq_false h, Bool.not_false, if_true]
theorem keepT_len (ps : List ByteArray) : (keepT ps).length ≤ ps.length := by
  unfold keepT
  refine Nat.le_trans (List.length_filter_le _ _) ?_
  rw [List.length_map]; exact Nat.le_refl _

theorem info9 : (Tryz.prog.info? 9).map (fun i => (i.zero, i.size, i.bytes)) = some (some (.string ByteArray.empty), 1, 16) := by kernel_rfl
theorem pieces_len (s : ByteArray) : (pieces s).length ≤ s.size + 2 := by
  have h1 := Lib.splitB_length_le ⟨#[44]⟩ 0 (Lib.countB s ⟨#[44]⟩) s
  have h2 : Lib.countB s ⟨#[44]⟩ ≤ s.size + 1 := Lib.count_le s.data.toList [44]
  unfold pieces; omega

set_option maxRecDepth 100000 in
set_option maxHeartbeats 4000000 in
theorem split_core (s : ByteArray) (ps : List ByteArray) (hpe : pieces s = ps) (w : World) (hs : s.size < 4294967281) (hlen : ps.length = Lib.countB s ⟨#[44]⟩ + 1) (hps : ∀ p ∈ ps, p.size ≤ 140737488355328) (hM : MaxL w) :
    Calls Tryz.prog 122 #[.string s] w fun e w' => ∃ ao cv, e = .returned (.slice ao (keepT ps).length cv) ∧ w'.ownsRow (w.heap.size + 1) 9 1 (.slice ao (keepT ps).length cv) (keepT ps).length ((keepT ps).map Value.string) ∧ Below w.heap.size w w' := by
  obtain ⟨m, hm⟩ := hM
  obtain ⟨i0, hi, hz0, hz1, hz2⟩ := info_parts info9
  have HM : Hid (w.cell? ⟨1, 0, none⟩ = some (.int .i64 m)) := hm
  have HL := pieces_len s
  rw [hpe] at HL
  have HPE : Hid (pieces s = ps) := hpe
  clear hm hpe
  go_enter Tryz.func122, Tryz.ntmps122
  go_wp2_with fail
  refine (Tryz.strings_Split s ⟨#[44]⟩ m _ hs HM.out (by decide)).mono ?_
  rw [← hlen]
  rintro e w1 ⟨rfl, hw1⟩
  have hpc : w1.heap[w.heap.size]? = some (.cells (ps.map Value.string).toArray 9) := by rw [hw1, ← HPE.out]; exact tblk_new _ _
  have hB1 : Below w.heap.size w w1 := by rw [hw1]; exact (Below.refl _ _).alloc (Nat.le_refl _) _
  have hs1 : w.heap.size + 1 ≤ w1.heap.size := by rw [hw1]; simp
  clear hw1 HM hlen HPE
  go_wp2_with fail
  go_loopw [3, 9] (fun v vi wr => ∃ (k : Nat) (ao : Option Addr) (cv : Nat), k ≤ ps.length ∧ vi = .int .i64 k ∧ v = .slice ao (keepT (ps.take k)).length cv ∧ wr.ownsRow (w.heap.size + 1) 9 1 v (keepT (ps.take k)).length ((keepT (ps.take k)).map Value.string) ∧ wr.heap[w.heap.size]? = some (.cells (ps.map Value.string).toArray 9) ∧ w.heap.size + 1 ≤ wr.heap.size ∧ Below w.heap.size w wr) (fun _ vi _ => ps.length - (intOf vi).toNat)
  case atStart => exact ⟨0, none, 0, Nat.zero_le _, rfl, rfl, World.ownsRow_nil _ _ _ _, hpc, hs1, hB1⟩
  case round =>
    obtain ⟨k, ao, cv, hk, rfl, rfl, hown, hpr, hsr, hB⟩ := hrel
    clear hpc hs1 hB1
    by_cases hlt : k < ps.length
    · have hcell : wr.cell? ⟨w.heap.size, k, none⟩ = some (.string ps[k]) := tblk_cell hpr (by rw [List.getElem?_toArray, List.getElem?_map, List.getElem?_eq_getElem hlt]; rfl)
      have hp := hps ps[k] (List.getElem_mem hlt)
      have hsn : Hid (keepT (ps.take (k + 1)) = keepT (ps.take k) ++ (if (trimT ps[k]).size = 0 then [] else [trimT ps[k]])) := by
        rw [Hid, List.take_succ_eq_append_getElem hlt, keepT_snoc]
      have hkl : (keepT (ps.take k)).length ≤ k := Nat.le_trans (keepT_len _) (List.length_take_le _ _)
      generalize ps[k] = p at *
      go_wp2_with fail
      refine (trim_any p _ hp).mono ?_
      rintro e w2 ⟨rfl, B2⟩
      have hown2 := owns_below hown B2
      have hpr2 := tblk_below hpr B2
      have hB2 := hB.trans (B2.mono hB.size)
      have hs2 : w.heap.size + 1 ≤ w2.heap.size := Nat.le_trans hsr B2.size
      clear hown hpr hB B2 hcell
      generalize trimT p = x at *
      by_cases hz : x.size = 0
      · have hsn2 : Hid (keepT (ps.take (k + 1)) = keepT (ps.take k)) := by rw [Hid, hsn.out, if_pos hz, List.append_nil]
        have he := empty_t hz
        clear hsn
        subst he
        go_wp2
        go_roundw
        case rel => exact ⟨k + 1, ao, cv, by omega, by go_num, by rw [hsn2.out], by rw [hsn2.out]; exact hown2, hpr2, hs2, hB2⟩
        case measure => simp [intOf]; omega
      · have hsn2 : Hid (keepT (ps.take (k + 1)) = keepT (ps.take k) ++ [x]) := by rw [Hid, hsn.out, if_neg hz]
        have hne := isEmpty_t hz
        clear hsn hz
        have hkn : (keepT (ps.take k)).length ≤ 4294967283 := by omega
        generalize keepT (ps.take k) = K at *
        go_wp2_with (first
          | (at_builtin; refine wpList_append_own _ rfl _ _ 39 rfl (w.heap.size + 1) 9 i0 (.string ByteArray.empty) 1 16 Tryz.underlying39 hi hz0 hz1 hz2 rfl (by decide) _ _ _ rfl (hown2.alloc _) ⟨w2.heap.size, 0, none⟩ 1 1 [.string x] rfl rfl (cell_one_new _ _ _) (fun x hx => by simp at hx; subst hx; rfl) (by unfold maxLen; omega) (by omega) (by simp; omega) ?_; intro v' w3 hown' hgrow3 hnil3))
        go_roundw
        case rel =>
          obtain ⟨g3, cap3, hv3⟩ : ∃ g3 cap3, v' = .slice (some ⟨g3, 0, none⟩) (K.length + 1) cap3 := by
            rcases hown'.2 with ⟨_, h⟩ | ⟨g3, cap3, _, h, _⟩
            · omega
            · exact ⟨g3, cap3, h⟩
          have hb3 : Below (w.heap.size + 1) w2 w3 := ((Below.refl _ _).alloc hs2 _).grown hgrow3 (by simp; omega) (fun q hq => (hown2.lt q hq).1)
          exact ⟨k + 1, some ⟨g3, 0, none⟩, cap3, by omega, by go_num, by rw [hv3, hsn2.out, List.length_append]; rfl, by rw [hsn2.out, List.map_append, List.length_append]; exact hown', (hb3.block _ (Nat.lt_succ_self _)).trans hpr2, Nat.le_trans hs2 hb3.size, hB2.trans (hb3.mono (Nat.le_succ _))⟩
        case measure => simp [intOf]; omega
    · go_wp2
      go_ret
      have hk' : k = ps.length := by omega
      subst hk'
      rw [List.take_length] at *
      exact ⟨ao, cv, rfl, hown, hB⟩

theorem split_any (s : ByteArray) (w : World) (hs : s.size < 4294967281) (hlen : (pieces s).length = Lib.countB s ⟨#[44]⟩ + 1) (hps : ∀ p ∈ pieces s, p.size ≤ 140737488355328) (hM : MaxL w) :
    Calls Tryz.prog 122 #[.string s] w fun e w' => ∃ ao cv, e = .returned (.slice ao (keepT (pieces s)).length cv) ∧ w'.ownsRow (w.heap.size + 1) 9 1 (.slice ao (keepT (pieces s)).length cv) (keepT (pieces s)).length ((keepT (pieces s)).map Value.string) ∧ Below w.heap.size w w' :=
  split_core s (pieces s) rfl w hs hlen hps hM
end Go.Proofs.YtkdnckkdofoaoaaGreatDoor

/- The parts of a list, byte by byte. -/
namespace Go.Proofs.YtkdnckkdofoaoaaGreatDoor
open Go.RowKit
set_option linter.unusedVariables false

def cuts : List UInt8 → List UInt8 → List (List UInt8)
  | acc, [] => [acc]
  | acc, b :: l => if b = 44 then acc :: cuts [] l else cuts (acc ++ [b]) l
theorem cuts_miss : ∀ (l acc : List UInt8), Lib.index l [44] = -1 → cuts acc l = [acc ++ l]
  | [], acc, _ => by simp [cuts]
  | b :: l, acc, h => by
    rw [Lib.index] at h
    by_cases hb : b = 44
    · subst hb; simp [List.isPrefixOf] at h
    · have hp : ([44] : List UInt8).isPrefixOf (b :: l) = false := by simp [List.isPrefixOf, Ne.symm hb]
      rw [hp] at h
      have hge := Lib.index_ge l [44]
      have hm : Lib.index l [44] = -1 := by
        by_cases e : Lib.index l [44] = -1
        · exact e
        · rw [if_neg (by decide), if_neg (fun q => e (beq_iff_eq.1 q))] at h; omega
      rw [cuts, if_neg hb, cuts_miss l _ hm]; simp
theorem cuts_hit : ∀ (l acc : List UInt8) (i : Nat), Lib.index l [44] = i → cuts acc l = (acc ++ l.take i) :: cuts [] (l.drop (i + 1))
  | [], acc, i, h => by simp [Lib.index] at h
  | b :: l, acc, i, h => by
    rw [Lib.index] at h
    by_cases hb : b = 44
    · subst hb
      have : i = 0 := by simp [List.isPrefixOf] at h; omega
      subst this
      simp [cuts]
    · have hp : ([44] : List UInt8).isPrefixOf (b :: l) = false := by simp [List.isPrefixOf, Ne.symm hb]
      rw [hp, if_neg (by decide)] at h
      have hge := Lib.index_ge l [44]
      by_cases e : Lib.index l [44] = -1
      · rw [if_pos (beq_iff_eq.2 e)] at h; omega
      · rw [if_neg (fun q => e (beq_iff_eq.1 q))] at h
        obtain ⟨j, rfl⟩ : ∃ j, i = j + 1 := ⟨i - 1, by omega⟩
        rw [cuts, if_neg hb, cuts_hit l _ j (by omega)]
        simp
theorem split_cuts : ∀ (k : Nat) (s : ByteArray), Lib.countB s ⟨#[44]⟩ = k → (Lib.splitB ⟨#[44]⟩ 0 k s).map (·.data.toList) = cuts [] s.data.toList
  | 0, s, hk => by
    rcases Lib.indexB_cases s ⟨#[44]⟩ with hix | ⟨i, hix, _⟩
    · rw [cuts_miss _ _ hix]; rfl
    · have := Lib.countB_hit s ⟨#[44]⟩ i (by decide) hix; omega
  | k + 1, s, hk => by
    rcases Lib.indexB_cases s ⟨#[44]⟩ with hix | ⟨i, hix, _⟩
    · rw [Lib.countB_miss s _ hix] at hk; omega
    · rw [Lib.splitB_hit _ 0 k s i hix, List.map_cons, split_cuts k _ (by have := Lib.countB_hit s ⟨#[44]⟩ i (by decide) hix; omega), cuts_hit _ _ i hix, Lib.extract_from_zero, Lib.extract_to_end]
      rfl
theorem pieces_cuts (s : ByteArray) : (pieces s).map (·.data.toList) = cuts [] s.data.toList := split_cuts _ s rfl
theorem pieces_length (s : ByteArray) : (pieces s).length = Lib.countB s ⟨#[44]⟩ + 1 := Lib.splitB_all ⟨#[44]⟩ (by decide) 0 _ s rfl
theorem cuts_len : ∀ (l acc : List UInt8), ∀ p ∈ cuts acc l, p.length ≤ acc.length + l.length
  | [], acc, p, h => by
    rw [cuts, List.mem_singleton] at h
    rw [h]; simp
  | b :: l, acc, p, h => by
    rw [cuts] at h
    split at h
    · cases h with
      | head => simp
      | tail _ h => have := cuts_len l [] p h; simp at this ⊢; omega
    · have := cuts_len l (acc ++ [b]) p h
      simp at this ⊢; omega
theorem pieces_size (s : ByteArray) : ∀ p ∈ pieces s, p.size ≤ s.size := by
  intro p hp
  have h : p.data.toList ∈ cuts [] s.data.toList := by rw [← pieces_cuts]; exact List.mem_map.2 ⟨p, hp, rfl⟩
  have k := cuts_len _ _ _ h
  have k2 : p.size = p.data.toList.length := rfl
  have k3 : s.size = s.data.toList.length := rfl
  simp at k k2 k3
  omega
theorem map_data_inj {a b : List ByteArray} (h : a.map (·.data.toList) = b.map (·.data.toList)) : a = b := by
  induction a generalizing b with
  | nil => cases b with
    | nil => rfl
    | cons _ _ => cases h
  | cons x a ih => cases b with
    | nil => cases h
    | cons y b =>
      rw [List.map_cons, List.map_cons] at h
      injection h with h1 h2
      rw [bytes_eq h1, ih h2]

/-- How far the reference has come: the parts that it has cut, where the next begins, and where it stands. -/
def Scan (s : ByteArray) (ps : List ByteArray) (f k : Nat) : Prop := f ≤ k ∧ k ≤ s.size ∧ ps.map (·.data.toList) ++ cuts ((s.data.toList.take k).drop f) (s.data.toList.drop k) = cuts [] s.data.toList
theorem Scan.start (s : ByteArray) : Scan s [] 0 0 := ⟨Nat.le_refl _, Nat.zero_le _, by simp⟩
theorem Scan.go {s : ByteArray} {ps : List ByteArray} {f k : Nat} (h : Scan s ps f k) (hk : k < s.size) (hb : s[k] ≠ 44) : Scan s ps f (k + 1) := by
  obtain ⟨h1, _, h3⟩ := h
  have hk' : k < s.data.toList.length := hk
  refine ⟨by omega, hk, ?_⟩
  rw [List.drop_eq_getElem_cons hk', cuts, if_neg (show s.data.toList[k] ≠ 44 from hb)] at h3
  rw [← h3, List.take_succ_eq_append_getElem hk', List.drop_append_of_le_length (by rw [List.length_take]; omega)]
theorem Scan.cut {s : ByteArray} {ps : List ByteArray} {f k : Nat} (h : Scan s ps f k) (hk : k < s.size) (hb : s[k] = 44) : Scan s (ps ++ [s.extract f k]) (k + 1) (k + 1) := by
  obtain ⟨h1, _, h3⟩ := h
  have hk' : k < s.data.toList.length := hk
  refine ⟨Nat.le_refl _, hk, ?_⟩
  rw [List.drop_eq_getElem_cons hk', cuts, if_pos (show s.data.toList[k] = 44 from hb)] at h3
  have hd : List.drop (k + 1) (List.take (k + 1) s.data.toList) = [] := List.drop_eq_nil_of_le (by rw [List.length_take]; omega)
  rw [← h3, hd, List.map_append, List.map_cons, List.map_nil, Lib.extract_data, ← List.drop_take, List.append_assoc, List.singleton_append]
theorem Scan.fin {s : ByteArray} {ps : List ByteArray} {f : Nat} (h : Scan s ps f s.size) : ps ++ [s.extract f s.size] = pieces s := by
  obtain ⟨h1, _, h3⟩ := h
  have hd : List.drop s.size s.data.toList = [] := List.drop_eq_nil_of_le (Nat.le_refl _)
  rw [hd, cuts] at h3
  refine map_data_inj ?_
  rw [pieces_cuts, ← h3, List.map_append, List.map_cons, List.map_nil, Lib.extract_data, List.drop_take]
end Go.Proofs.YtkdnckkdofoaoaaGreatDoor

/- Rows of texts and of fields in memory. -/
namespace Go.Proofs.YtkdnckkdofoaoaaGreatDoor
open Go.ChangeShapes Go.WideShapes Go.ChangeAt Go.RowKit
set_option linter.unusedVariables false

abbrev Fs := List (ByteArray × ByteArray)
theorem bcell {W w1 : World} (hb : Below W.heap.size W w1) : (∀ b o, b < W.heap.size → w1.cell? ⟨b, o, none⟩ = W.cell? ⟨b, o, none⟩) ∧ (∀ b o, b < W.heap.size → w1.frozen? ⟨b, o, none⟩ = W.frozen? ⟨b, o, none⟩) :=
  ⟨fun b o h => hb.cell (p := ⟨b, o, none⟩) h, fun b o h => hb.frozen (p := ⟨b, o, none⟩) h⟩
/-- A slice of texts, lying in a block below B if it has any. -/
def Txs (B : Nat) (w : World) (v : Value) (xs : List ByteArray) : Prop := ∃ a c, v = .slice a xs.length c ∧ (a = none → c = 0) ∧ xs.length ≤ c ∧ c ≤ maxLen ∧ (0 < xs.length → ∃ g off, a = some ⟨g, off, none⟩ ∧ g < B ∧ ∀ (j : Nat) (hj : j < xs.length), w.cell? ⟨g, off + j, none⟩ = some (.string xs[j]))
/-- A slice of fields. -/
def Fds (B : Nat) (w : World) (v : Value) (fs : Fs) : Prop := ∃ a c, v = .slice a fs.length c ∧ (a = none → c = 0) ∧ fs.length ≤ c ∧ c ≤ maxLen ∧ (0 < fs.length → ∃ g off, a = some ⟨g, off, none⟩ ∧ g < B ∧ ∀ (j : Nat) (hj : j < fs.length), w.cell? ⟨g, off + j * 2, none⟩ = some (.string fs[j].1) ∧ w.cell? ⟨g, off + j * 2 + 1, none⟩ = some (.string fs[j].2))
theorem Txs.keep {B : Nat} {w w' : World} {v : Value} {xs : List ByteArray} (h : Txs B w v xs) (b : Below B w w') : Txs B w' v xs := by
  obtain ⟨a, c, e, h1, h2, h3, h4⟩ := h
  refine ⟨a, c, e, h1, h2, h3, fun hp => ?_⟩
  obtain ⟨g, off, ea, hg, hc⟩ := h4 hp
  exact ⟨g, off, ea, hg, fun j hj => (b.cell (p := ⟨g, off + j, none⟩) hg).trans (hc j hj)⟩
theorem Fds.keep {B : Nat} {w w' : World} {v : Value} {fs : Fs} (h : Fds B w v fs) (b : Below B w w') : Fds B w' v fs := by
  obtain ⟨a, c, e, h1, h2, h3, h4⟩ := h
  refine ⟨a, c, e, h1, h2, h3, fun hp => ?_⟩
  obtain ⟨g, off, ea, hg, hc⟩ := h4 hp
  exact ⟨g, off, ea, hg, fun j hj => ⟨(b.cell (p := ⟨g, off + j * 2, none⟩) hg).trans (hc j hj).1, (b.cell (p := ⟨g, off + j * 2 + 1, none⟩) hg).trans (hc j hj).2⟩⟩
theorem Txs.mono {B C : Nat} {w : World} {v : Value} {xs : List ByteArray} (h : Txs B w v xs) (b : B ≤ C) : Txs C w v xs := by
  obtain ⟨a, c, e, h1, h2, h3, h4⟩ := h
  refine ⟨a, c, e, h1, h2, h3, fun hp => ?_⟩
  obtain ⟨g, off, ea, hg, hc⟩ := h4 hp
  exact ⟨g, off, ea, Nat.lt_of_lt_of_le hg b, hc⟩
theorem Fds.mono {B C : Nat} {w : World} {v : Value} {fs : Fs} (h : Fds B w v fs) (b : B ≤ C) : Fds C w v fs := by
  obtain ⟨a, c, e, h1, h2, h3, h4⟩ := h
  refine ⟨a, c, e, h1, h2, h3, fun hp => ?_⟩
  obtain ⟨g, off, ea, hg, hc⟩ := h4 hp
  exact ⟨g, off, ea, Nat.lt_of_lt_of_le hg b, hc⟩
theorem Fds.len {B : Nat} {w : World} {a : Option Addr} {n c : Nat} {fs : Fs} (h : Fds B w (.slice a n c) fs) : fs.length = n ∧ n ≤ c ∧ c ≤ maxLen := by
  obtain ⟨a', c', e, h1, h2, h3, _⟩ := h
  obtain ⟨rfl, rfl, rfl⟩ := slice_inj e
  exact ⟨rfl, h2, h3⟩
theorem Txs.len {B : Nat} {w : World} {a : Option Addr} {n c : Nat} {xs : List ByteArray} (h : Txs B w (.slice a n c) xs) : xs.length = n ∧ n ≤ c ∧ c ≤ maxLen := by
  obtain ⟨a', c', e, h1, h2, h3, _⟩ := h
  obtain ⟨rfl, rfl, rfl⟩ := slice_inj e
  exact ⟨rfl, h2, h3⟩

/-- A row of texts, and one of fields, of the walk's own, in a block from B on. -/
def OwnT (B : Nat) (w : World) (v : Value) (xs : List ByteArray) : Prop := w.ownsRow B 9 1 v xs.length (xs.map Value.string)
def rowF (fs : Fs) : List Value := fs.flatMap fun f => [.string f.1, .string f.2]
def OwnF (B : Nat) (w : World) (v : Value) (fs : Fs) : Prop := w.ownsRow B 41 2 v fs.length (rowF fs)
theorem rowF_len (fs : Fs) : (rowF fs).length = fs.length * 2 := by
  induction fs with
  | nil => rfl
  | cons f l ih =>
    show ([Value.string f.1, .string f.2] ++ rowF l).length = _
    have e : (f :: l).length = l.length + 1 := rfl
    have e2 : ([Value.string f.1, .string f.2] : List Value).length = 2 := rfl
    rw [List.length_append, ih, e, e2]; omega
theorem rowF_app (x y : Fs) : rowF (x ++ y) = rowF x ++ rowF y := by unfold rowF; rw [List.flatMap_append]
theorem rowF_at : ∀ (fs : Fs) (j : Nat) (hj : j < fs.length), (rowF fs)[j * 2]? = some (.string fs[j].1) ∧ (rowF fs)[j * 2 + 1]? = some (.string fs[j].2)
  | f :: l, 0, _ => ⟨rfl, rfl⟩
  | f :: l, j + 1, h => by
    have k := rowF_at l j (by simpa using h)
    have e1 : (j + 1) * 2 = j * 2 + 1 + 1 := by omega
    rw [e1]
    exact k
theorem rowF_one (fs : Fs) : ∀ v ∈ rowF fs, v.oneCell' = true := by
  intro v hv
  unfold rowF at hv
  obtain ⟨f, _, hf⟩ := List.mem_flatMap.1 hv
  simp at hf
  rcases hf with rfl | rfl <;> rfl
theorem rowT_one (xs : List ByteArray) : ∀ v ∈ xs.map Value.string, v.oneCell' = true := by
  intro v hv
  obtain ⟨b, _, rfl⟩ := List.mem_map.1 hv
  rfl
theorem OwnT.form {B : Nat} {w : World} {v : Value} {xs : List ByteArray} (h : OwnT B w v xs) : ∃ a c, v = .slice a xs.length c ∧ (a = none → c = 0) := by
  obtain ⟨h1, ⟨h2, h3⟩ | ⟨g, c, cur, hv, _⟩⟩ := h
  · exact ⟨none, 0, by rw [h2, h3], fun _ => rfl⟩
  · exact ⟨_, c, hv, fun e => by cases e⟩
theorem OwnF.form {B : Nat} {w : World} {v : Value} {fs : Fs} (h : OwnF B w v fs) : ∃ a c, v = .slice a fs.length c ∧ (a = none → c = 0) := by
  obtain ⟨h1, ⟨h2, h3⟩ | ⟨g, c, cur, hv, _⟩⟩ := h
  · exact ⟨none, 0, by rw [h2, h3], fun _ => rfl⟩
  · exact ⟨_, c, hv, fun e => by cases e⟩
theorem OwnT.txs {B : Nat} {w : World} {v : Value} {xs : List ByteArray} (h : OwnT B w v xs) : Txs w.heap.size w v xs := by
  have h0 := h
  obtain ⟨h1, ⟨h2, h3⟩ | ⟨g, c, cur, hv, hB, hg, hl, hm, hs, ht⟩⟩ := h
  · exact ⟨none, 0, by rw [h2, h3], fun _ => rfl, by omega, Nat.zero_le _, fun q => by omega⟩
  · refine ⟨_, c, hv, (fun e => by cases e), hl, hm, fun _ => ⟨g, 0, rfl, heap_lt hg, fun j hj => ?_⟩⟩
    have k := (hv ▸ h0 : w.ownsRow B 9 1 (.slice (some ⟨g, 0, none⟩) xs.length c) xs.length (xs.map Value.string)).cellAt j (by omega)
    rw [Nat.zero_add, k, List.getElem?_map, List.getElem?_eq_getElem hj]; rfl
theorem OwnF.fds {B : Nat} {w : World} {v : Value} {fs : Fs} (h : OwnF B w v fs) : Fds w.heap.size w v fs := by
  have h0 := h
  obtain ⟨h1, ⟨h2, h3⟩ | ⟨g, c, cur, hv, hB, hg, hl, hm, hs, ht⟩⟩ := h
  · exact ⟨none, 0, by rw [h2, h3], fun _ => rfl, by omega, Nat.zero_le _, fun q => by omega⟩
  · refine ⟨_, c, hv, (fun e => by cases e), hl, hm, fun _ => ⟨g, 0, rfl, heap_lt hg, fun j hj => ?_⟩⟩
    have k := (hv ▸ h0 : w.ownsRow B 41 2 (.slice (some ⟨g, 0, none⟩) fs.length c) fs.length (rowF fs))
    have r := rowF_at fs j hj
    rw [Nat.zero_add]
    exact ⟨(k.cellAt (j * 2) (by omega)).trans r.1, (k.cellAt (j * 2 + 1) (by omega)).trans r.2⟩
theorem OwnT.keep {B : Nat} {w w' : World} {v : Value} {xs : List ByteArray} (h : OwnT B w v xs) (b : Below w.heap.size w w') : OwnT B w' v xs := owns_below h b
theorem OwnF.keep {B : Nat} {w w' : World} {v : Value} {fs : Fs} (h : OwnF B w v fs) (b : Below w.heap.size w w') : OwnF B w' v fs := owns_below h b
theorem owns_mono {B C : Nat} {w : World} {e : TypeId} {size : Nat} {v : Value} {n : Nat} {xs : List Value} (h : w.ownsRow B e size v n xs) (hC : C ≤ B) : w.ownsRow C e size v n xs := by
  obtain ⟨h1, h2⟩ := h
  refine ⟨h1, ?_⟩
  rcases h2 with h2 | ⟨g, cap, cur, hv, hg, r⟩
  · exact .inl h2
  · exact .inr ⟨g, cap, cur, hv, Nat.le_trans hC hg, r⟩
theorem OwnT.mono {B C : Nat} {w : World} {v : Value} {xs : List ByteArray} (h : OwnT B w v xs) (hC : C ≤ B) : OwnT C w v xs := owns_mono h hC
theorem OwnF.mono {B C : Nat} {w : World} {v : Value} {fs : Fs} (h : OwnF B w v fs) (hC : C ≤ B) : OwnF C w v fs := owns_mono h hC
theorem OwnT.nil (B : Nat) (w : World) : OwnT B w (.slice none 0 0) [] := World.ownsRow_nil _ _ _ _
theorem OwnF.nil (B : Nat) (w : World) : OwnF B w (.slice none 0 0) [] := World.ownsRow_nil _ _ _ _
theorem OwnT.empty (B : Nat) (w : World) (hB : B ≤ w.heap.size) : OwnT B (w.alloc (.cells #[] 9)) (.slice (some ⟨w.heap.size, 0, none⟩) 0 0) [] :=
  ⟨rfl, .inr ⟨w.heap.size, 0, #[], rfl, hB, new_at _ _, Nat.le_refl _, by decide, rfl, rfl⟩⟩
theorem OwnF.empty (B : Nat) (w : World) (hB : B ≤ w.heap.size) : OwnF B (w.alloc (.cells #[] 41)) (.slice (some ⟨w.heap.size, 0, none⟩) 0 0) [] :=
  ⟨rfl, .inr ⟨w.heap.size, 0, #[], rfl, hB, new_at _ _, Nat.le_refl _, by decide, rfl, rfl⟩⟩
theorem infoF : (Tryz.prog.info? 41).map (fun i => (i.zero, i.size, i.bytes)) = some (some (.agg #[.string ByteArray.empty, .string ByteArray.empty]), 2, 32) := by kernel_rfl
/-- Texts appended. -/
theorem ownT_append {B C : Nat} {w : World} {v : Value} {X Y : List ByteArray} {a : Option Addr} {n c : Nat} (h : OwnT B w v X) (hs : Txs C w (.slice a n c) Y) (hmax : X.length + Y.length ≤ 4294967296) (hB : B ≤ w.heap.size) :
    ∃ v' w', (Builtin.append_ #[39, 39] 39 #[v, .slice a n c]).run Tryz.prog w = .ok v' w' ∧ OwnT B w' v' (X ++ Y) ∧ Below B w w' := by
  obtain ⟨i, hi, hz0, hz1, hz2⟩ := info_parts info9
  obtain ⟨a', c', e, hnil, h1, h2, h3⟩ := hs
  obtain ⟨e1, e2, e3⟩ := slice_inj e
  subst e1 e2 e3
  have hmx : X.length + Y.length ≤ maxLen := by unfold maxLen; omega
  cases a with
  | none =>
    have hc := hnil rfl
    have hy : Y = [] := by
      rcases Nat.eq_zero_or_pos Y.length with q | q
      · exact List.eq_nil_of_length_eq_zero q
      · obtain ⟨_, _, q, _⟩ := h3 q; cases q
    subst hy hc
    exact ⟨v, w, run_append_owned_none w B 39 39 9 i 1 Tryz.underlying39 hi v _ _ h, by rw [List.append_nil]; exact h, Below.refl _ _⟩
  | some ad =>
    obtain ⟨v', w', hr, q1, q2, q3, q4⟩ := run_append_own_at (P := Tryz.prog) w B 39 39 9 i (.string ByteArray.empty) 1 16 Tryz.underlying39 hi hz0 hz1 hz2 rfl (by decide) v X.length (X.map Value.string) h ad Y.length c (Y.map Value.string) (by rw [List.length_map]; omega)
      (fun j u hj => by
        rw [List.getElem?_map] at hj
        obtain ⟨x, hx, rfl⟩ := Option.map_eq_some_iff.1 hj
        have hjl := (List.getElem?_eq_some_iff.1 hx).1
        obtain ⟨k, off, ha, _, hc⟩ := h3 (by omega)
        have : ad = ⟨k, off, none⟩ := by simpa using ha
        subst this
        rw [addr_add, hc j hjl, (List.getElem?_eq_some_iff.1 hx).2]) (rowT_one _) hmx (by omega) hB
    refine ⟨v', w', hr, ?_, (Below.refl _ _).grown q2 hB (fun q hq => (h.lt q hq).1)⟩
    unfold OwnT
    rw [List.length_append, List.map_append]; exact q1
/-- Fields appended. -/
theorem ownF_append {B C : Nat} {w : World} {v : Value} {X Y : Fs} {a : Option Addr} {n c : Nat} (h : OwnF B w v X) (hs : Fds C w (.slice a n c) Y) (hmax : X.length + Y.length ≤ 4294967296) (hB : B ≤ w.heap.size) :
    ∃ v' w', (Builtin.append_ #[24, 24] 24 #[v, .slice a n c]).run Tryz.prog w = .ok v' w' ∧ OwnF B w' v' (X ++ Y) ∧ Below B w w' := by
  obtain ⟨i, hi, hz0, hz1, hz2⟩ := info_parts infoF
  obtain ⟨a', c', e, hnil, h1, h2, h3⟩ := hs
  obtain ⟨e1, e2, e3⟩ := slice_inj e
  subst e1 e2 e3
  have hmx : X.length + Y.length ≤ maxLen := by unfold maxLen; omega
  cases a with
  | none =>
    have hc := hnil rfl
    have hy : Y = [] := by
      rcases Nat.eq_zero_or_pos Y.length with q | q
      · exact List.eq_nil_of_length_eq_zero q
      · obtain ⟨_, _, q, _⟩ := h3 q; cases q
    subst hy hc
    exact ⟨v, w, run_append_owned_none w B 24 24 41 i 2 Tryz.underlying24 hi v _ _ h, by rw [List.append_nil]; exact h, Below.refl _ _⟩
  | some ad =>
    obtain ⟨v', w', hr, q1, q2, q3, q4⟩ := run_append_own_at (P := Tryz.prog) w B 24 24 41 i (.agg #[.string ByteArray.empty, .string ByteArray.empty]) 2 32 Tryz.underlying24 hi hz0 hz1 hz2 rfl (by decide) v X.length (rowF X) h ad Y.length c (rowF Y) (rowF_len Y)
      (fun j u hj => by
        have hjl := (List.getElem?_eq_some_iff.1 hj).1
        rw [rowF_len] at hjl
        obtain ⟨k, off, ha, _, hc⟩ := h3 (by omega)
        have : ad = ⟨k, off, none⟩ := by simpa using ha
        subst this
        rw [addr_add]
        have r := rowF_at Y (j / 2) (by omega)
        have q := hc (j / 2) (by omega)
        rcases Nat.mod_two_eq_zero_or_one j with m | m
        · have e1 : j / 2 * 2 = j := by omega
          rw [e1] at r q
          rw [q.1, ← r.1, hj]
        · have e1 : j / 2 * 2 + 1 = j := by omega
          have e2 : off + j / 2 * 2 + 1 = off + j := by omega
          rw [e1] at r
          rw [e2] at q
          rw [q.2, ← r.2, hj]) (rowF_one _) hmx (by omega) hB
    refine ⟨v', w', hr, ?_, (Below.refl _ _).grown q2 hB (fun q hq => (h.lt q hq).1)⟩
    unfold OwnF
    rw [List.length_append, rowF_app]; exact q1
/-- Fields that came in. -/
def datF {H : Type} (f : ByteArray × ByteArray) : DataW H := .agg [.lit (.string f.1.data.toList), .lit (.string f.2.data.toList)]
theorem open_fields {H : Type} {enc : TypeId × Value → H} {w : World} {base : Nat} {held : Bool} {a : Option Addr} {len cap : Nat} {x : DataW H × List MemPlace}
    (h : ∃ fuel, DataW.trod enc Tryz.prog w base (fun _ => true) held fuel 24 (Value.slice a len cap).cells.toList = some x) :
    ∃ fs : Fs, Fds w.heap.size w (.slice a len cap) fs ∧ (∀ f ∈ fs, f.1.size ≤ maxLen ∧ f.2.size ≤ maxLen) ∧ ((x.1 = .nil ∧ fs = []) ∨ ∃ sp, x.1 = .slice (fs.map datF) sp) := by
  obtain ⟨fuel, hf⟩ := h
  rcases Go.Deep.open_slice_pairs Tryz.underlying24 Tryz.underlying41 (by kernel_rfl) rfl rfl (by kernel_rfl) (by kernel_rfl) hf with ⟨hcs, hx⟩ | ⟨ad, l, c, m, n, V0, V1, D0, D1, P0, P1, hcs, hb, hl, hm, hmm, hx, hc⟩
  · simp [Value.cells] at hcs
    obtain ⟨rfl, rfl, rfl⟩ := hcs
    exact ⟨[], ⟨none, 0, rfl, fun _ => rfl, Nat.le_refl _, Nat.zero_le _, fun h => absurd h (Nat.lt_irrefl _)⟩, (fun f hf => by cases hf), .inl ⟨by rw [hx], rfl⟩⟩
  · simp [Value.cells] at hcs
    obtain ⟨rfl, rfl, rfl⟩ := hcs
    have hmm' : m = cap := by simpa using hmm
    subst hmm'
    have each : ∀ i, i < m → ∃ q : ByteArray × ByteArray, V0 i = .string q.1 ∧ V1 i = .string q.2 ∧ D0 i = .lit (.string q.1.data.toList) ∧ D1 i = .lit (.string q.2.data.toList) ∧ q.1.size ≤ maxLen ∧ q.2.size ≤ maxLen := by
      intro i hi
      obtain ⟨_, _, g0, g1⟩ := hc i hi
      obtain ⟨s0, e0, f0, z0⟩ := DataW.trod_string Tryz.underlying9 g0
      obtain ⟨s1, e1, f1, z1⟩ := DataW.trod_string Tryz.underlying9 g1
      simp only [Prod.mk.injEq] at f0 f1
      exact ⟨(s0, s1), by simpa using e0, by simpa using e1, f0.1, f1.1, z0, z1⟩
    obtain ⟨q, hq⟩ := Go.Deep.choose_lt each
    have hln : ((List.range len).map q).length = len := by simp
    refine ⟨(List.range len).map q, ⟨_, _, by rw [hln], (fun e => by cases e), by rw [hln]; exact hl, hm, fun hp => ?_⟩, ?_, .inr ⟨(List.range (m - len)).map fun j => .agg [D0 (len + j), D1 (len + j)], ?_⟩⟩
    · rw [hln] at hp
      obtain ⟨b, off, spot⟩ := ad
      have hspot : spot = none := by simpa [Addr.add] using World.cell?_spot (hc 0 (by omega)).1
      subst hspot
      have hcc : ∀ i, i < m → World.cell? w ⟨b, off + i * 2, none⟩ = some (V0 i) ∧ World.cell? w ⟨b, off + i * 2 + 1, none⟩ = some (V1 i) := fun i hi => by
        have k := hc i hi
        rw [addr_add, addr_add] at k
        exact ⟨k.1, by rw [Nat.add_assoc]; exact k.2.1⟩
      refine ⟨b, off, rfl, ?_, fun j hj => ?_⟩
      · have k := (hcc 0 (by omega)).1
        unfold World.cell? at k
        rcases Nat.lt_or_ge b w.heap.size with g | g
        · exact g
        · simp [Array.getElem?_eq_none g] at k
      · rw [hln] at hj
        have e : ((List.range len).map q)[j]'(by rw [hln]; exact hj) = q j := by simp
        rw [e, ← (hq j (by omega)).1, ← (hq j (by omega)).2.1]
        exact hcc j (by omega)
    · intro f hf
      obtain ⟨i, hi, rfl⟩ := List.mem_map.1 hf
      have := List.mem_range.1 hi
      exact (hq i (by omega)).2.2.2.2
    · rw [hx]
      show DataW.slice _ _ = DataW.slice _ _
      congr 1
      rw [List.map_map]
      refine List.map_congr_left fun i hi => ?_
      have := List.mem_range.1 hi
      show _ = datF (q i)
      rw [(hq i (by omega)).2.2.1, (hq i (by omega)).2.2.2.1]; rfl
end Go.Proofs.YtkdnckkdofoaoaaGreatDoor

/- Get and List: what each answers of fields. -/
namespace Go.Proofs.YtkdnckkdofoaoaaGreatDoor
open Go.ChangeShapes Go.WideShapes Go.ChangeAt Go.RowKit
set_option linter.unusedVariables false

/-- The same text, folded. -/
def smT (a b : ByteArray) : Bool := (foldS a).toList == (foldS b).toList
def getF (fs : Fs) (n : ByteArray) : List ByteArray := (fs.filter fun f => smT f.1 n).map (·.2)
def splT (s : ByteArray) : List ByteArray := keepT (pieces s)
def splA (xs : List ByteArray) : List ByteArray := xs.flatMap splT
def listF (fs : Fs) (n : ByteArray) : List ByteArray := splA (getF fs n)
theorem getF_snoc (fs : Fs) (f : ByteArray × ByteArray) (n : ByteArray) : getF (fs ++ [f]) n = getF fs n ++ (if smT f.1 n = true then [f.2] else []) := by
  unfold getF
  rw [List.filter_append, List.map_append]
  congr 1
  cases h : smT f.1 n <;> simp [h]
theorem getF_len (fs : Fs) (n : ByteArray) : (getF fs n).length ≤ fs.length := by
  unfold getF
  rw [List.length_map]
  exact List.length_filter_le _ _
theorem getF_mem {fs : Fs} {n x : ByteArray} (h : x ∈ getF fs n) : ∃ f ∈ fs, f.2 = x := by
  unfold getF at h
  obtain ⟨f, hf, rfl⟩ := List.mem_map.1 h
  exact ⟨f, (List.mem_filter.1 hf).1, rfl⟩
/-- No text of theirs is longer than N. -/
def FBd (N : Nat) (fs : Fs) : Prop := ∀ f ∈ fs, f.1.size ≤ N ∧ f.2.size ≤ N
def TBd (N : Nat) (xs : List ByteArray) : Prop := ∀ x ∈ xs, x.size ≤ N
theorem getF_bd {N : Nat} {fs : Fs} {n : ByteArray} (h : FBd N fs) : TBd N (getF fs n) := fun x hx => by
  obtain ⟨f, hf, rfl⟩ := getF_mem hx
  exact (h f hf).2
theorem same_sm (a b : ByteArray) (w : World) (ha : a.size ≤ maxLen) (hb : b.size ≤ maxLen) :
    Calls Tryz.prog 79 #[.string a, .string b] w fun e w' => e = .returned (.bool (smT a b)) ∧ Below w.heap.size w w' := same_any a b w ha hb
theorem one_txs (w : World) (x : ByteArray) (C : Nat) (h : w.heap.size < C) : Txs C (w.alloc (.cells #[.string x] 9)) (.slice (some ⟨w.heap.size, 0, none⟩) 1 1) [x] :=
  ⟨_, 1, rfl, (fun e => by cases e), Nat.le_refl _, by decide, fun _ => ⟨w.heap.size, 0, rfl, h, fun j hj => by
    have : j = 0 := by simpa using hj
    subst this
    exact tblk_cell (tblk_new _ _) rfl⟩⟩

set_option maxRecDepth 100000 in
set_option maxHeartbeats 1000000 in
theorem get_any (fs : Fs) (a : Option Addr) (c : Nat) (name : ByteArray) (w : World) (hf : Fds w.heap.size w (.slice a fs.length c) fs) (hb : FBd 140737488355328 fs) (hn : name.size ≤ 140737488355328) (hl : fs.length ≤ 16777216) :
    Calls Tryz.prog 40 #[.slice a fs.length c, .string name] w fun e w' => ∃ ao cv, e = .returned (.slice ao (getF fs name).length cv) ∧ OwnT w.heap.size w' (.slice ao (getF fs name).length cv) (getF fs name) ∧ Below w.heap.size w w' := by
  have hlm := hf.len
  unfold maxLen at hlm
  have HN : Hid (name.size ≤ maxLen) := by rw [Hid]; unfold maxLen; omega
  rcases Nat.eq_zero_or_pos fs.length with h0 | hp
  · have he : fs = [] := List.eq_nil_of_length_eq_zero h0
    subst he
    clear hf hb hn hl h0 hlm HN
    go_enter Tryz.func40, Tryz.ntmps40
    go_wp2_with fail
    refine wp_loop_rounds 1 ?_
    rw [rounds_succ]
    go_wp2
    go_ret
    exact ⟨none, 0, rfl, OwnT.nil _ _, Below.refl _ _⟩
  · obtain ⟨a', c', e, hnil, h1, h2, h3⟩ := hf
    obtain ⟨rfl, _, rfl⟩ := slice_inj e
    obtain ⟨g, off, rfl, hg, hc⟩ := h3 hp
    have HC : Hid (∀ (j : Nat) (hj : j < fs.length), w.cell? ⟨g, off + j * 2, none⟩ = some (.string fs[j].1) ∧ w.cell? ⟨g, off + j * 2 + 1, none⟩ = some (.string fs[j].2)) := hc
    have HBD : Hid (FBd 140737488355328 fs) := hb
    clear e hnil h1 h2 h3 hn hlm hc hb
    go_enter Tryz.func40, Tryz.ntmps40
    go_wp2_with fail
    go_loopw [5, 10] (fun v vi wr => ∃ (k : Nat) (ao : Option Addr) (cv : Nat), k ≤ fs.length ∧ vi = .int .i64 k ∧ v = .slice ao (getF (fs.take k) name).length cv ∧ OwnT w.heap.size wr v (getF (fs.take k) name) ∧ Below w.heap.size w wr) (fun _ vi _ => fs.length - (intOf vi).toNat)
    case atStart => exact ⟨0, none, 0, Nat.zero_le _, rfl, rfl, OwnT.nil _ _, Below.refl _ _⟩
    case round =>
      obtain ⟨k, ao, cv, hk, rfl, rfl, hown, hB⟩ := hrel
      by_cases hlt : k < fs.length
      · have hc1 := (hB.cell (p := ⟨g, off + k * 2, none⟩) hg).trans (HC.out k hlt).1
        have hc2 := (hB.cell (p := ⟨g, off + k * 2 + 1, none⟩) hg).trans (HC.out k hlt).2
        have hsz := HBD.out fs[k] (List.getElem_mem hlt)
        have hsn : Hid (getF (fs.take (k + 1)) name = getF (fs.take k) name ++ (if smT fs[k].1 name = true then [fs[k].2] else [])) := by
          rw [Hid, List.take_succ_eq_append_getElem hlt, getF_snoc]
        have hkl : (getF (fs.take k) name).length ≤ k := Nat.le_trans (getF_len _ _) (List.length_take_le _ _)
        generalize fs[k] = f at *
        obtain ⟨fn, fv⟩ := f
        simp only at hc1 hc2 hsz hsn
        have hs1 : Hid (fn.size ≤ maxLen) := by rw [Hid]; unfold maxLen; omega
        have hs2 : Hid (fv.size ≤ 281474976710656) := by rw [Hid]; omega
        have HS : Hid (∀ W, Calls Tryz.prog 79 #[.string fn, .string name] W fun e w' => e = .returned (.bool (smT fn name)) ∧ Below W.heap.size W w') := fun W => same_sm fn name W hs1.out HN.out
        generalize smT fn name = b at *
        have HO : Hid (OwnT w.heap.size wr (.slice ao (getF (fs.take k) name).length cv) (getF (fs.take k) name)) := hown
        have HKL : Hid ((getF (fs.take k) name).length ≤ 16777216) := by rw [Hid]; omega
        clear hsz hown hkl
        generalize getF (fs.take k) name = K at *
        go_wp2_with fail
        refine (HS.out _).mono ?_
        rintro e w2 ⟨rfl, B2⟩
        have g2 : w2.heap[wr.heap.size]? = some (.cells #[.string fn, .string fv] 41) := tblk_below (tblk_new _ _) B2
        have C2 : Below wr.heap.size wr w2 := ((Below.refl _ _).alloc (Nat.le_refl _) _).trans (B2.mono (by simp))
        have own2 := HO.out.keep C2
        have hB2 := hB.trans (C2.mono hB.size)
        have c1 : w2.cell? ⟨wr.heap.size, 1, none⟩ = some (.string fv) := tblk_cell g2 rfl
        clear g2 B2 C2 hB HO hc1 hc2 HS
        cases b
        · have hsn2 : Hid (getF (fs.take (k + 1)) name = K) := by rw [Hid, hsn.out, if_neg (by decide), List.append_nil]
          clear hsn
          go_wp2
          go_roundw
          case rel => exact ⟨k + 1, ao, cv, by omega, by go_num, by rw [hsn2.out], by rw [hsn2.out]; exact own2, hB2⟩
          case measure => simp [intOf]; omega
        · have hsn2 : Hid (getF (fs.take (k + 1)) name = K ++ [fv]) := by rw [Hid, hsn.out, if_pos rfl]
          clear hsn
          go_wp2_with fail
          refine (clone_any fv _ hs2.out).mono ?_
          rintro e w3 ⟨rfl, B3⟩
          have own3 := (own2.keep B3).keep ((Below.refl _ _).alloc (Nat.le_refl _) (.cells #[.string fv] 9))
          have hB3 := hB2.trans (B3.mono hB2.size)
          obtain ⟨v4, w4, r4, own4, B4⟩ := ownT_append own3 (one_txs w3 fv _ (Nat.lt_succ_self _)) (by have := HKL.out; simp; omega) (by have := hB3.size; simp; omega)
          have hB4 : Below w.heap.size w w4 := (hB3.alloc hB3.size _).trans B4
          obtain ⟨a4, c4, rfl, _⟩ := own4.form
          have HO4 : Hid (OwnT w.heap.size w4 (.slice a4 (K ++ [fv]).length c4) (K ++ [fv])) := own4
          have HR : Hid ((Builtin.append_ #[39, 39] 39 #[.slice ao K.length cv, .slice (some ⟨w3.heap.size, 0, none⟩) 1 1]).run Tryz.prog (w3.alloc (.cells #[.string fv] 9)) = .ok (.slice a4 (K ++ [fv]).length c4) w4) := r4
          clear own2 own3 own4 B3 B4 hB2 hB3 r4 c1
          have HL : Hid ((K ++ [fv]).length = (getF (fs.take (k + 1)) name).length) := by rw [Hid, hsn2.out]
          generalize (K ++ [fv]).length = L at *
          go_wp2_with (at_builtin; refine wpList_append_run2 rfl _ _ 39 39 rfl _ _ _ w4 rfl rfl HR.out ?_)
          go_roundw
          case rel => exact ⟨k + 1, a4, c4, by omega, by go_num, by rw [HL.out], by rw [hsn2.out]; exact HO4.out, hB4⟩
          case measure => simp [intOf]; omega
      · go_wp2
        go_ret
        have hk' : k = fs.length := by omega
        subst hk'
        rw [List.take_length] at *
        exact ⟨ao, cv, rfl, hown, hB⟩
end Go.Proofs.YtkdnckkdofoaoaaGreatDoor

/- How long a body is, as plain functions of the fields. -/
namespace Go.Proofs.YtkdnckkdofoaoaaGreatDoor
open Go.RowKit
set_option linter.unusedVariables false

def anyT (xs : List ByteArray) (s : ByteArray) : Bool := xs.any fun x => smT x s
def hasF (fs : Fs) (n p : ByteArray) : Bool := anyT (listF fs n) p
def tCL : ByteArray := ⟨#[67, 111, 110, 116, 101, 110, 116, 45, 76, 101, 110, 103, 116, 104]⟩
def tTE : ByteArray := ⟨#[84, 114, 97, 110, 115, 102, 101, 114, 45, 69, 110, 99, 111, 100, 105, 110, 103]⟩
def tCo : ByteArray := ⟨#[67, 111, 110, 110, 101, 99, 116, 105, 111, 110]⟩
def tCh : ByteArray := ⟨#[99, 104, 117, 110, 107, 101, 100]⟩
def tClose : ByteArray := ⟨#[99, 108, 111, 115, 101]⟩
def tKeep : ByteArray := ⟨#[107, 101, 101, 112, 45, 97, 108, 105, 118, 101]⟩
def thereF (fs : Fs) (n : ByteArray) : Bool := decide (0 < (getF fs n).length)
def chunkL (xs : List ByteArray) : Bool := match xs with | [p] => smT p tCh | _ => false
def chunkedF (fs : Fs) : Bool := chunkL (listF fs tTE)
def sameN (first : Int) (ps : List ByteArray) : Bool := ps.all fun q => numB 10 18 q && decide (numI 10 18 q = first)
def lenL (ps : List ByteArray) : Int × Bool := match ps with | [] => (0, false) | p :: r => if (numB 10 18 p && sameN (numI 10 18 p) r) = true then (numI 10 18 p, true) else (0, false)
def lengthF (fs : Fs) : Int × Bool := lenL (listF fs tCL)
def toldF (fs : Fs) (minor : Int) : Int × Int × Int :=
  if (thereF fs tTE && (thereF fs tCL || decide (minor = 0))) = true then (0, 0, 400)
  else if thereF fs tTE = true then (if chunkedF fs = true then (2, 0, 0) else (0, 0, 501))
  else if thereF fs tCL = false then (3, 0, 0)
  else if (lengthF fs).2 = false then (0, 0, 400)
  else if 4096 < (lengthF fs).1 then (0, 0, 413) else (1, (lengthF fs).1, 0)
def closesF (fs : Fs) (minor : Int) : Bool := hasF fs tCo tClose || (decide (minor = 0) && !hasF fs tCo tKeep)
def bareF (method : ByteArray) (code : Int) : Bool := decide (method = ⟨#[72, 69, 65, 68]⟩) || decide (code < 200) || decide (code = 204) || decide (code = 304)
def reqF (fs : Fs) (minor : Int) : Int × Bool × Int := ((toldF fs minor).2.1, decide ((toldF fs minor).1 = 2), (toldF fs minor).2.2)
def respF (method : ByteArray) (code minor : Int) (fs : Fs) : Int × Int × Bool := if bareF method code = true then (0, 0, true) else ((toldF fs minor).1, (toldF fs minor).2.1, decide ((toldF fs minor).2.2 = 0))

theorem smT_congr {n n' : ByteArray} (h : foldS n = foldS n') (a : ByteArray) : smT a n = smT a n' := by unfold smT; rw [h]
theorem getF_congr {n n' : ByteArray} (h : foldS n = foldS n') (fs : Fs) : getF fs n = getF fs n' := by
  unfold getF
  rw [funext fun f : ByteArray × ByteArray => smT_congr h f.1]
theorem listF_congr {n n' : ByteArray} (h : foldS n = foldS n') (fs : Fs) : listF fs n = listF fs n' := by unfold listF; rw [getF_congr h]
theorem numI_bd (s : ByteArray) : 0 ≤ numI 10 18 s ∧ numI 10 18 s < 1000000000000000000 := by
  unfold numI numV
  split
  · exact ⟨by decide, by decide⟩
  · rename_i h
    cases hv : vN 10 s.data.toList with
    | none => exact ⟨by decide, by decide⟩
    | some n =>
      have k := vN_take_lt 10 18 (by decide) s s.size (by omega) n (by rw [List.take_of_length_le (show s.data.toList.length ≤ s.size from Nat.le_refl _)]; exact hv)
      show 0 ≤ (n : Int) ∧ (n : Int) < _
      have e : (10 : Nat) ^ 18 = 1000000000000000000 := by decide
      omega
theorem lenL_bd (ps : List ByteArray) : 0 ≤ (lenL ps).1 ∧ (lenL ps).1 < 1000000000000000000 := by
  unfold lenL
  split
  · exact ⟨by decide, by decide⟩
  · split
    · exact numI_bd _
    · exact ⟨by decide, by decide⟩
theorem listF_mem {fs : Fs} {n x : ByteArray} (h : x ∈ listF fs n) : ∃ y ∈ getF fs n, x ∈ splT y := by
  unfold listF splA at h
  exact List.mem_flatMap.1 h
end Go.Proofs.YtkdnckkdofoaoaaGreatDoor

/- List, among and Has: what each answers of fields. -/
namespace Go.Proofs.YtkdnckkdofoaoaaGreatDoor
open Go.ChangeShapes Go.WideShapes Go.ChangeAt Go.RowKit
set_option linter.unusedVariables false

theorem splT_len (s : ByteArray) : (splT s).length ≤ s.size + 2 := Nat.le_trans (keepT_len _) (pieces_len s)
theorem splA_snoc (xs : List ByteArray) (x : ByteArray) : splA (xs ++ [x]) = splA xs ++ splT x := by unfold splA; rw [List.flatMap_append]; simp
theorem splA_len (N : Nat) : ∀ xs : List ByteArray, TBd N xs → (splA xs).length ≤ xs.length * (N + 2)
  | [], _ => by simp [splA]
  | x :: l, h => by
    have ih := splA_len N l (fun y hy => h y (List.mem_cons_of_mem _ hy))
    have h1 := h x (List.mem_cons_self ..)
    have h2 := splT_len x
    have e : splA (x :: l) = splT x ++ splA l := rfl
    rw [e, List.length_append, List.length_cons, Nat.add_mul]
    omega
theorem splA_take (xs : List ByteArray) (k : Nat) : (splA (xs.take k)).length ≤ (splA xs).length := by
  have e : splA xs = splA (xs.take k) ++ splA (xs.drop k) := by
    unfold splA
    rw [← List.flatMap_append, List.take_append_drop]
  rw [e, List.length_append]; omega
theorem trimP_mem {N : Nat} {p : ByteArray} (h : p.size ≤ N) : (trimT p).size ≤ N := Nat.le_trans (trimT_size p) h
theorem splT_bd {N : Nat} {s : ByteArray} (h : s.size ≤ N) : TBd N (splT s) := by
  intro x hx
  unfold splT keepT at hx
  obtain ⟨p, hp, rfl⟩ := List.mem_map.1 (List.mem_filter.1 hx).1
  exact trimP_mem (Nat.le_trans (pieces_size s p hp) h)
theorem listF_bd {N : Nat} {fs : Fs} {n : ByteArray} (h : FBd N fs) : TBd N (listF fs n) := by
  intro x hx
  obtain ⟨y, hy, hxy⟩ := listF_mem hx
  exact splT_bd (getF_bd h y hy) x hxy
theorem listF_len {N M : Nat} {fs : Fs} {n : ByteArray} (h : FBd N fs) (hl : fs.length ≤ M) : (listF fs n).length ≤ M * (N + 2) :=
  Nat.le_trans (splA_len N _ (getF_bd h)) (Nat.mul_le_mul_right _ (Nat.le_trans (getF_len fs n) hl))
theorem FBd.mono {N M : Nat} {fs : Fs} (h : FBd N fs) (k : N ≤ M) : FBd M fs := fun f hf => ⟨Nat.le_trans (h f hf).1 k, Nat.le_trans (h f hf).2 k⟩

set_option maxRecDepth 100000 in
set_option maxHeartbeats 1000000 in
theorem list_any (fs : Fs) (a : Option Addr) (c : Nat) (name : ByteArray) (w : World) (hf : Fds w.heap.size w (.slice a fs.length c) fs) (hb : FBd 1048576 fs) (hn : name.size ≤ 1048576) (hl : fs.length ≤ 1024) (hM : MaxL w) :
    Calls Tryz.prog 76 #[.slice a fs.length c, .string name] w fun e w' => ∃ ao cv, e = .returned (.slice ao (listF fs name).length cv) ∧ OwnT w.heap.size w' (.slice ao (listF fs name).length cv) (listF fs name) ∧ Below w.heap.size w w' := by
  have HG : Hid (Calls Tryz.prog 40 #[.slice a fs.length c, .string name] w fun e w' => ∃ ao cv, e = .returned (.slice ao (getF fs name).length cv) ∧ OwnT w.heap.size w' (.slice ao (getF fs name).length cv) (getF fs name) ∧ Below w.heap.size w w') := get_any fs a c name w hf (hb.mono (by decide)) (by omega) (by omega)
  have HT : Hid ((splA (getF fs name)).length ≤ 1024 * 1048578) := listF_len hb hl
  have HV : Hid (TBd 1048576 (getF fs name)) := getF_bd hb
  have HVL : Hid ((getF fs name).length ≤ 1024) := Nat.le_trans (getF_len _ _) hl
  have e0 : listF fs name = splA (getF fs name) := rfl
  rw [e0]
  clear e0 hf hb hn hl
  generalize getF fs name = vs at *
  go_enter Tryz.func76, Tryz.ntmps76
  go_wp2_with fail
  refine HG.out.mono ?_
  rintro e w1 ⟨ao1, cv1, rfl, own1, B1⟩
  have M1 := hM.below B1
  have T1 := own1.txs
  clear HG hM own1
  rcases Nat.eq_zero_or_pos vs.length with h0 | hp
  · have he : vs = [] := List.eq_nil_of_length_eq_zero h0
    subst he
    clear T1 h0
    go_wp2_with fail
    refine wp_loop_rounds 1 ?_
    rw [rounds_succ]
    go_wp2
    go_ret
    exact ⟨none, 0, rfl, OwnT.nil _ _, B1⟩
  · obtain ⟨a', c', e, hnil, h1, h2, h3⟩ := T1
    obtain ⟨rfl, _, rfl⟩ := slice_inj e
    obtain ⟨g, off, rfl, hg, hc⟩ := h3 hp
    have HC : Hid (∀ (j : Nat) (hj : j < vs.length), w1.cell? ⟨g, off + j, none⟩ = some (.string vs[j])) := hc
    clear e hnil h1 h2 h3 hc
    have hvl := HVL.out
    go_wp2_with fail
    go_loopw [5, 12] (fun v vi wr => ∃ (k : Nat) (ao : Option Addr) (cv : Nat), k ≤ vs.length ∧ vi = .int .i64 k ∧ v = .slice ao (splA (vs.take k)).length cv ∧ OwnT w1.heap.size wr v (splA (vs.take k)) ∧ Below w1.heap.size w1 wr) (fun _ vi _ => vs.length - (intOf vi).toNat)
    case atStart => exact ⟨0, none, 0, Nat.zero_le _, rfl, rfl, OwnT.nil _ _, Below.refl _ _⟩
    case round =>
      obtain ⟨k, ao, cv, hk, rfl, rfl, hown, hB⟩ := hrel
      by_cases hlt : k < vs.length
      · have hc1 := (hB.cell (p := ⟨g, off + k, none⟩) hg).trans (HC.out k hlt)
        have hsz : Hid (vs[k].size ≤ 1048576) := HV.out vs[k] (List.getElem_mem hlt)
        have hsn : Hid (splA (vs.take (k + 1)) = splA (vs.take k) ++ splT vs[k]) := by
          rw [Hid, List.take_succ_eq_append_getElem hlt, splA_snoc]
        have hkl : Hid ((splA (vs.take (k + 1))).length ≤ 1024 * 1048578) := Nat.le_trans (splA_take vs (k + 1)) HT.out
        generalize vs[k] = x at *
        have HO : Hid (OwnT w1.heap.size wr (.slice ao (splA (vs.take k)).length cv) (splA (vs.take k))) := hown
        clear hown
        generalize splA (vs.take k) = K at *
        go_wp2_with fail
        refine (split_any x _ (by have := hsz.out; omega) (pieces_length x) (fun p hp => by have := hsz.out; have := pieces_size x p hp; omega) (M1.below hB)).mono ?_
        rintro e w2 ⟨ao2, cv2, rfl, own2, B2⟩
        have own2' : OwnT (wr.heap.size + 1) w2 (.slice ao2 (splT x).length cv2) (splT x) := own2
        have ownK := HO.out.keep B2
        have hB2 := hB.trans (B2.mono hB.size)
        obtain ⟨v4, w4, r4, own4, B4⟩ := ownT_append ownK own2'.txs (by have := hkl.out; rw [hsn.out, List.length_append] at this; omega) hB2.size
        have hB4 : Below w1.heap.size w1 w4 := hB2.trans B4
        obtain ⟨a4, c4, rfl, _⟩ := own4.form
        have HO4 : Hid (OwnT w1.heap.size w4 (.slice a4 (K ++ splT x).length c4) (K ++ splT x)) := own4
        have HR : Hid ((Builtin.append_ #[39, 39] 39 #[.slice ao K.length cv, .slice ao2 (keepT (pieces x)).length cv2]).run Tryz.prog w2 = .ok (.slice a4 (K ++ splT x).length c4) w4) := r4
        clear own2 own2' ownK own4 B2 B4 hB2 hB r4 hc1 HO
        have HL : Hid ((K ++ splT x).length = (splA (vs.take (k + 1))).length) := by rw [Hid, hsn.out]
        generalize (K ++ splT x).length = L at *
        generalize (keepT (pieces x)).length = L2 at *
        go_wp2_with (at_builtin; refine wpList_append_run2 rfl _ _ 39 39 rfl _ _ _ w4 rfl rfl HR.out ?_)
        go_roundw
        case rel => exact ⟨k + 1, a4, c4, by omega, by go_num, by rw [HL.out], by rw [hsn.out]; exact HO4.out, hB4⟩
        case measure => simp [intOf]; omega
      · go_wp2
        go_ret
        have hk' : k = vs.length := by omega
        subst hk'
        rw [List.take_length] at *
        exact ⟨ao, cv, rfl, hown.mono B1.size, B1.trans (hB.mono B1.size)⟩

/-- among's closure. -/
theorem among1_any (x s : ByteArray) (p : Nat) (w : World) (h1 : w.heap[p]? = some (.cells #[.string s] 9)) (hx : x.size ≤ maxLen) (hs : s.size ≤ maxLen) :
    Calls Tryz.prog 121 #[.string x, .pointer (some ⟨p, 0, none⟩)] w fun e w' => e = .returned (.bool (smT x s)) ∧ Below w.heap.size w w' := by
  have c1 : w.cell? ⟨p, 0, none⟩ = some (.string s) := tblk_cell h1 rfl
  have HS : Hid (Calls Tryz.prog 79 #[.string x, .string s] w fun e w' => e = .returned (.bool (smT x s)) ∧ Below w.heap.size w w') := same_sm x s w hx hs
  clear h1 hx hs
  go_enter Tryz.func121, Tryz.ntmps121
  go_wp2_with fail
  refine HS.out.mono ?_
  rintro e w2 ⟨rfl, B2⟩
  go_wp2
  go_ret
  exact ⟨rfl, B2⟩
theorem anyT_at {xs : List ByteArray} {s : ByteArray} (k : Nat) (h : k < xs.length) (hs : smT xs[k] s = true) : anyT xs s = true := by
  unfold anyT
  rw [List.any_eq_true]
  exact ⟨xs[k], List.getElem_mem h, hs⟩
theorem anyT_snoc {xs : List ByteArray} {s : ByteArray} {k : Nat} (h : k < xs.length) (h0 : anyT (xs.take k) s = false) (hs : smT xs[k] s = false) : anyT (xs.take (k + 1)) s = false := by
  rw [List.take_succ_eq_append_getElem h]
  unfold anyT at *
  rw [List.any_append, h0]
  simp [hs]

set_option maxRecDepth 100000 in
set_option maxHeartbeats 1000000 in
theorem idx_any (xs : List ByteArray) (a : Option Addr) (c : Nat) (s : ByteArray) (p : Nat) (w : World) (hx : Txs w.heap.size w (.slice a xs.length c) xs) (hb : TBd 140737488355328 xs) (hs : s.size ≤ 140737488355328) (h1 : w.heap[p]? = some (.cells #[.string s] 9)) :
    Calls Tryz.prog 152 #[.slice a xs.length c, .func (.func 121) #[] #[.pointer (some ⟨p, 0, none⟩)]] w fun e w' => ∃ i : Int, e = .returned (.int .i64 i) ∧ -1 ≤ i ∧ (decide (0 ≤ i) = anyT xs s) ∧ Below w.heap.size w w' := by
  have hlm := hx.len
  unfold maxLen at hlm
  have HS : Hid (s.size ≤ maxLen) := by rw [Hid]; unfold maxLen; omega
  rcases Nat.eq_zero_or_pos xs.length with h0 | hp
  · have he : xs = [] := List.eq_nil_of_length_eq_zero h0
    subst he
    clear hx hb h0 hlm HS hs
    go_enter Tryz.func152, Tryz.ntmps152
    go_wp2_with fail
    refine wp_loop_rounds 1 ?_
    rw [rounds_succ]
    go_wp2
    go_ret
    exact ⟨-1, rfl, Int.le_refl _, rfl, Below.refl _ _⟩
  · obtain ⟨a', c', e, hnil, q1, q2, q3⟩ := hx
    obtain ⟨rfl, _, rfl⟩ := slice_inj e
    obtain ⟨g, off, rfl, hg, hc⟩ := q3 hp
    have HC : Hid (∀ (j : Nat) (hj : j < xs.length), w.cell? ⟨g, off + j, none⟩ = some (.string xs[j])) := hc
    have HBD : Hid (TBd 140737488355328 xs) := hb
    have H1 : Hid (w.heap[p]? = some (.cells #[.string s] 9)) := h1
    have hln : xs.length ≤ 9223372036854775807 := by omega
    clear e hnil q1 q2 q3 hlm hc hb hs h1
    go_enter Tryz.func152, Tryz.ntmps152
    go_wp2_with fail
    go_loopw [8] (fun vi wr => ∃ k : Nat, k ≤ xs.length ∧ vi = .int .i64 k ∧ Hid (anyT (xs.take k) s = false) ∧ Below w.heap.size w wr) (fun vi _ => xs.length - (intOf vi).toNat)
    case atStart => exact ⟨0, Nat.zero_le _, rfl, rfl, Below.refl _ _⟩
    case round =>
      obtain ⟨k, hk, rfl, hA, hB⟩ := hrel
      by_cases hlt : k < xs.length
      · have hc1 := (hB.cell (p := ⟨g, off + k, none⟩) hg).trans (HC.out k hlt)
        have hsz := HBD.out xs[k] (List.getElem_mem hlt)
        have hs1 : Hid (xs[k].size ≤ maxLen) := by rw [Hid]; unfold maxLen; omega
        have HA : Hid (∀ W, W.heap[p]? = some (.cells #[.string s] 9) → Calls Tryz.prog 121 #[.string xs[k], .pointer (some ⟨p, 0, none⟩)] W fun e w' => e = .returned (.bool (smT xs[k] s)) ∧ Below W.heap.size W w') := fun W hW => among1_any _ s p W hW hs1.out HS.out
        have hY : Hid (smT xs[k] s = true → anyT xs s = true) := fun q => anyT_at k hlt q
        have hN : Hid (smT xs[k] s = false → anyT (xs.take (k + 1)) s = false) := fun q => anyT_snoc hlt hA.out q
        have hpw : Hid (wr.heap[p]? = some (.cells #[.string s] 9)) := (hB.block p (heap_lt H1.out)).trans H1.out
        generalize smT xs[k] s = b at *
        clear hsz hs1
        generalize xs[k] = x at *
        go_wp2_with fail
        refine (HA.out _ hpw.out).mono ?_
        rintro e w2 ⟨rfl, B2⟩
        have hB2 := hB.trans (B2.mono hB.size)
        clear HA hpw hB B2 hc1
        cases b
        · have hN2 : Hid (anyT (xs.take (k + 1)) s = false) := hN.out rfl
          clear hN hY
          go_wp2
          go_roundw
          case rel => exact ⟨k + 1, by omega, by go_num, hN2, hB2⟩
          case measure => simp [intOf]; omega
        · have hY2 : Hid (anyT xs s = true) := hY.out rfl
          clear hN hY
          go_wp2
          go_ret
          exact ⟨k, rfl, by omega, by rw [hY2.out]; simp, hB2⟩
      · go_wp2
        go_ret
        have hk' : k = xs.length := by omega
        subst hk'
        have h := hA.out
        rw [List.take_length] at h
        exact ⟨-1, rfl, Int.le_refl _, by rw [h]; rfl, hB⟩

set_option maxHeartbeats 1000000 in
theorem cont_any (xs : List ByteArray) (a : Option Addr) (c : Nat) (s : ByteArray) (p : Nat) (w : World) (hx : Txs w.heap.size w (.slice a xs.length c) xs) (hb : TBd 140737488355328 xs) (hs : s.size ≤ 140737488355328) (h1 : w.heap[p]? = some (.cells #[.string s] 9)) :
    Calls Tryz.prog 120 #[.slice a xs.length c, .func (.func 121) #[] #[.pointer (some ⟨p, 0, none⟩)]] w fun e w' => e = .returned (.bool (anyT xs s)) ∧ Below w.heap.size w w' := by
  have HI : Hid (Calls Tryz.prog 152 #[.slice a xs.length c, .func (.func 121) #[] #[.pointer (some ⟨p, 0, none⟩)]] w fun e w' => ∃ i : Int, e = .returned (.int .i64 i) ∧ -1 ≤ i ∧ (decide (0 ≤ i) = anyT xs s) ∧ Below w.heap.size w w') := idx_any xs a c s p w hx hb hs h1
  clear hx hb hs h1
  generalize anyT xs s = t at *
  go_enter Tryz.func120, Tryz.ntmps120
  go_wp2_with fail
  refine HI.out.mono ?_
  rintro e w2 ⟨i, rfl, hi, hd, B2⟩
  have HD : Hid (decide (0 ≤ i) = t) := hd
  clear hd HI
  go_wp2
  go_ret
  exact ⟨ret_bool HD.out, B2⟩

set_option maxHeartbeats 1000000 in
theorem amongT_any (s : ByteArray) (xs : List ByteArray) (a : Option Addr) (c : Nat) (w : World) (hx : Txs w.heap.size w (.slice a xs.length c) xs) (hb : TBd 140737488355328 xs) (hs : s.size ≤ 140737488355328) :
    Calls Tryz.prog 75 #[.string s, .slice a xs.length c] w fun e w' => e = .returned (.bool (anyT xs s)) ∧ Below w.heap.size w w' := by
  have hmf : ∀ (fn : Fn) (first cap : Array Value) (w : World), (Instr.makeFunc fn first cap).run Tryz.prog w = .ok (.func fn first cap) w := fun _ _ _ _ => rfl
  have C1 : Below w.heap.size w (w.alloc (.cells #[.string s] 9)) := (Below.refl _ _).alloc (Nat.le_refl _) _
  have HC : Hid (Calls Tryz.prog 120 #[.slice a xs.length c, .func (.func 121) #[] #[.pointer (some ⟨w.heap.size, 0, none⟩)]] (w.alloc (.cells #[.string s] 9)) fun e w' => e = .returned (.bool (anyT xs s)) ∧ Below (w.alloc (.cells #[.string s] 9)).heap.size (w.alloc (.cells #[.string s] 9)) w') := cont_any xs a c s w.heap.size _ ((hx.keep C1).mono C1.size) hb hs (tblk_new _ _)
  clear hx hb hs
  go_enter Tryz.func75, Tryz.ntmps75
  go_wp2_with fail
  refine HC.out.mono ?_
  rintro e w2 ⟨rfl, B2⟩
  go_wp2
  go_ret
  exact ⟨rfl, C1.trans (B2.mono C1.size)⟩

set_option maxHeartbeats 1000000 in
theorem has_any (fs : Fs) (a : Option Addr) (c : Nat) (name part : ByteArray) (w : World) (hf : Fds w.heap.size w (.slice a fs.length c) fs) (hb : FBd 1048576 fs) (hn : name.size ≤ 1048576) (hq : part.size ≤ 1048576) (hl : fs.length ≤ 1024) (hM : MaxL w) :
    Calls Tryz.prog 38 #[.slice a fs.length c, .string name, .string part] w fun e w' => e = .returned (.bool (hasF fs name part)) ∧ Below w.heap.size w w' := by
  have HL : Hid (Calls Tryz.prog 76 #[.slice a fs.length c, .string name] w fun e w' => ∃ ao cv, e = .returned (.slice ao (listF fs name).length cv) ∧ OwnT w.heap.size w' (.slice ao (listF fs name).length cv) (listF fs name) ∧ Below w.heap.size w w') := list_any fs a c name w hf hb hn hl hM
  have HB : Hid (TBd 140737488355328 (listF fs name)) := fun x hx => Nat.le_trans (listF_bd hb x hx) (by decide)
  have hs : Hid (part.size ≤ 140737488355328) := by rw [Hid]; omega
  unfold hasF
  clear hf hb hn hq hl hM
  generalize listF fs name = xs at *
  go_enter Tryz.func38, Tryz.ntmps38
  go_wp2_with fail
  refine HL.out.mono ?_
  rintro e w1 ⟨ao, cv, rfl, own1, B1⟩
  have HA : Hid (Calls Tryz.prog 75 #[.string part, .slice ao xs.length cv] w1 fun e w' => e = .returned (.bool (anyT xs part)) ∧ Below w1.heap.size w1 w') := amongT_any part xs ao cv w1 own1.txs HB.out hs.out
  clear HL HB own1
  go_wp2_with fail
  refine HA.out.mono ?_
  rintro e w2 ⟨rfl, B2⟩
  go_wp2
  go_ret
  exact ⟨rfl, B1.trans (B2.mono B1.size)⟩
end Go.Proofs.YtkdnckkdofoaoaaGreatDoor

/- A field in a block of its own. -/
namespace Go.Proofs.YtkdnckkdofoaoaaGreatDoor
open Go.ChangeShapes Go.WideShapes Go.ChangeAt Go.RowKit
set_option linter.unusedVariables false

theorem fds_new (w : World) (n v : ByteArray) : Fds (w.alloc (.cells #[.string n, .string v] 41)).heap.size (w.alloc (.cells #[.string n, .string v] 41)) (.slice (some ⟨w.heap.size, 0, none⟩) 1 1) [(n, v)] :=
  ⟨_, 1, rfl, (fun e => by cases e), Nat.le_refl _, by decide, fun _ => ⟨w.heap.size, 0, rfl, by simp, fun j hj => by
    have : j = 0 := by simpa using hj
    subst this
    exact ⟨tblk_cell (tblk_new _ _) rfl, tblk_cell (tblk_new _ _) rfl⟩⟩⟩

end Go.Proofs.YtkdnckkdofoaoaaGreatDoor

/- The reference's Same: equal fields are the same. -/
namespace Go.Proofs.YtkdnckkdofoaoaaGreatDoor
open Go.ChangeShapes Go.WideShapes Go.ChangeAt Go.RowKit
set_option linter.unusedVariables false

set_option maxRecDepth 100000 in
set_option maxHeartbeats 1000000 in
theorem rsame_eq (a : Fs) (A B : Option Addr) (c d : Nat) (w : World) {X Y : Nat} (ha : Fds X w (.slice A a.length c) a) (hb : Fds Y w (.slice B a.length d) a) :
    Calls Tryz.prog 26 #[.slice A a.length c, .slice B a.length d] w fun e w' => e = .returned (.bool true) ∧ Below w.heap.size w w' := by
  have hla := ha.len
  unfold maxLen at hla
  rcases Nat.eq_zero_or_pos a.length with h0 | hp
  · have ea : a = [] := List.eq_nil_of_length_eq_zero h0
    subst ea
    clear ha hb hla h0
    go_enter Tryz.func26, Tryz.ntmps26
    go_wp2_with fail
    refine wp_loop_rounds 1 ?_
    rw [rounds_succ]
    go_wp2
    go_ret
    exact ⟨rfl, Below.refl _ _⟩
  · obtain ⟨A', c', e, _, _, _, h3⟩ := ha
    obtain ⟨rfl, _, rfl⟩ := slice_inj e
    obtain ⟨g1, o1, rfl, _, k1⟩ := h3 hp
    obtain ⟨B', d', e', _, _, _, h4⟩ := hb
    obtain ⟨rfl, _, rfl⟩ := slice_inj e'
    obtain ⟨g2, o2, rfl, _, k2⟩ := h4 hp
    have H1 : Hid (∀ (j : Nat) (hj : j < a.length), w.cell? ⟨g1, o1 + j * 2, none⟩ = some (.string a[j].1) ∧ w.cell? ⟨g1, o1 + j * 2 + 1, none⟩ = some (.string a[j].2)) := k1
    have H2 : Hid (∀ (j : Nat) (hj : j < a.length), w.cell? ⟨g2, o2 + j * 2, none⟩ = some (.string a[j].1) ∧ w.cell? ⟨g2, o2 + j * 2 + 1, none⟩ = some (.string a[j].2)) := k2
    have hln : a.length ≤ 9223372036854775807 := by omega
    clear k1 k2 e e' h3 h4 hla
    go_enter Tryz.func26, Tryz.ntmps26
    go_wp2_with fail
    go_loopw [5] (fun vi wr => ∃ k d : Nat, k ≤ a.length ∧ vi = .int .i64 k ∧ wr = w.drewN d) (fun vi _ => a.length - (intOf vi).toNat)
    case atStart => exact ⟨0, 0, Nat.zero_le _, rfl, by simp [World.drewN_zero]⟩
    case round =>
      obtain ⟨k, d, hk, rfl, rfl⟩ := hrel
      by_cases hlt : k < a.length
      · obtain ⟨p1, p2⟩ := H1.out k hlt
        obtain ⟨q1, q2⟩ := H2.out k hlt
        generalize a[k] = f at *
        obtain ⟨fn, fv⟩ := f
        simp only at p1 p2 q1 q2
        go_wp2
        go_quiet (fail)
        go_wp2
        go_roundw
        case rel => exact ⟨k + 1, _, by omega, by go_num, rfl⟩
        case measure => simp [intOf]; omega
      · go_wp2
        go_ret
        exact ⟨rfl, by refine ⟨?_, ?_, ?_, ?_, ?_⟩ <;> simp [World.drewN]⟩
end Go.Proofs.YtkdnckkdofoaoaaGreatDoor
