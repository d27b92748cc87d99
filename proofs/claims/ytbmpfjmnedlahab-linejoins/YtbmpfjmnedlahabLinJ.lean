/- LineJoins, walked. -/
import Derived.Test.YtbmpfjmnedlahabLinC
import Derived.Test.YtbmpfjmnedlahabSamB
namespace Go.Proofs.Ytbmpfjmnedlahab
open Go.ChangeShapes Go.WideShapes Go.ChangeAt Go.RowKit
set_option linter.unusedVariables false

/-- A list of texts that came in. -/
def Txts (w : World) (a : Option Addr) (len : Nat) (ss : List ByteArray) : Prop := ss.length = len ∧ len ≤ maxLen ∧ (∀ s ∈ ss, s.size ≤ maxLen) ∧ (0 < len → ∃ b off, a = some ⟨b, off, none⟩ ∧ b < w.heap.size ∧ ∀ (i : Nat) (hi : i < ss.length), w.cell? ⟨b, off + i, none⟩ = some (.string ss[i]))
theorem open_texts {H : Type} {enc : TypeId × Value → H} {w : World} {base : Nat} {held : Bool} {a : Option Addr} {len cap : Nat} {x : DataW H × List MemPlace}
    (h : ∃ fuel, DataW.trod enc Try.prog w base (fun _ => true) held fuel 22 (Value.slice a len cap).cells.toList = some x) : ∃ ss, Txts w a len ss := by
  obtain ⟨fuel, hf⟩ := h
  rcases Go.Deep.open_strs Try.underlying22 Try.underlying9 (by kernel_rfl) hf with ⟨hcs, _⟩ | ⟨x, l, c, m, Sx, hcs, _, hl, hm, hmm, _, hcell⟩
  · simp [Value.cells] at hcs
    obtain ⟨rfl, rfl, rfl⟩ := hcs
    exact ⟨[], rfl, Nat.zero_le _, (fun s hs => by cases hs), fun h => absurd h (Nat.lt_irrefl _)⟩
  · simp [Value.cells] at hcs
    obtain ⟨rfl, rfl, rfl⟩ := hcs
    have hmc : m = cap := by simpa using hmm
    subst hmc
    refine ⟨(List.range len).map Sx, by simp, Nat.le_trans hl hm, fun s hs => ?_, fun hp => ?_⟩
    · obtain ⟨i, hi, rfl⟩ := List.mem_map.1 hs
      exact (hcell i (by have := List.mem_range.1 hi; omega)).2
    · have h0 := (hcell 0 (by omega)).1
      have hb : x.block < w.heap.size := by
        have := cell_lt h0
        have e : (x.add 0).block = x.block := by unfold Addr.add; split <;> rfl
        rw [e] at this
        exact this
      obtain ⟨b, off, spot⟩ := x
      have hspot : spot = none := by simpa [Addr.add] using World.cell?_spot h0
      subst hspot
      refine ⟨b, off, rfl, hb, fun i hi => ?_⟩
      have hi' : i < len := by simpa using hi
      have := (hcell i (by omega)).1
      rw [addr_add] at this
      rw [this]; simp
theorem Txts.below {w w' : World} {a : Option Addr} {len : Nat} {ss : List ByteArray} (h : Txts w a len ss) (hB : Below w.heap.size w w') : Txts w' a len ss := by
  obtain ⟨h1, h2, h3, h4⟩ := h
  refine ⟨h1, h2, h3, fun hp => ?_⟩
  obtain ⟨b, off, e, hb, hc⟩ := h4 hp
  exact ⟨b, off, e, Nat.lt_of_lt_of_le hb hB.size, fun i hi => by rw [hB.cell (p := ⟨b, off + i, none⟩) hb]; exact hc i hi⟩
theorem Txts.at {w : World} {a : Option Addr} {len : Nat} {ss : List ByteArray} (h : Txts w a len ss) (k : Nat) (hk : k < len) : ∃ b off, a = some ⟨b, off, none⟩ ∧ ∃ hk' : k < ss.length, w.cell? ⟨b, off + k, none⟩ = some (.string ss[k]) := by
  obtain ⟨h1, h2, h3, h4⟩ := h
  obtain ⟨b, off, e, hb, hc⟩ := h4 (by omega)
  exact ⟨b, off, e, by omega, hc k (by omega)⟩
/-- Texts, each with an end of a line behind. -/
def joinL (ss : List ByteArray) : List UInt8 := (ss.map fun s => s.data.toList ++ [13, 10]).flatten
theorem joinL_snoc (ss : List ByteArray) (s : ByteArray) : joinL (ss ++ [s]) = joinL ss ++ s.data.toList ++ [13, 10] := by
  unfold joinL; rw [List.map_append, List.flatten_append]; simp
theorem joinL_cons (ss : List ByteArray) (s : ByteArray) : joinL (s :: ss) = s.data.toList ++ 13 :: 10 :: joinL ss := by
  unfold joinL; simp
def okT (s : ByteArray) : Prop := s.size ≤ 500 ∧ plain s.data.toList = true
theorem joinL_len (ss : List ByteArray) (h : ∀ s ∈ ss, okT s) : (joinL ss).length ≤ 502 * ss.length := by
  induction ss with
  | nil => exact Nat.le_refl _
  | cons s ss ih =>
    rw [joinL_cons]
    have h1 := (h s (.head _)).1
    have h2 := ih (fun x hx => h x (.tail _ hx))
    have h3 : s.data.toList.length = s.size := rfl
    simp only [List.length_append, List.length_cons]
    omega
theorem plain_snoc (s : ByteArray) (j : Nat) (h : j < s.size) (hp : plain (s.data.toList.take j) = true) (h1 : s[j] ≠ 13) (h2 : s[j] ≠ 10) : plain (s.data.toList.take (j + 1)) = true := by
  have hj : j < s.data.toList.length := h
  rw [List.take_succ_eq_append_getElem hj]
  have e : s.data.toList[j] = s[j] := rfl
  unfold plain at *
  rw [List.all_append, hp, e]
  simp [h1, h2]
theorem cutV_plain (m : Nat) (s : ByteArray) (R : List UInt8) (h : plain s.data.toList = true) : cutV m (s.data.toList ++ 13 :: 10 :: R) = if m < s.size then .tuple #[.string ⟨#[]⟩, .int .i64 0, .int .i64 2] else .tuple #[.string s, .int .i64 ((s.size : Int) + 2), .int .i64 0] := by
  have k := cutAt_plain m R s.data.toList 0 (Nat.zero_le _) h
  have hz : s.data.toList.length = s.size := rfl
  rw [Nat.zero_add, hz] at k
  by_cases hm : m < s.size
  · rw [if_pos hm] at k
    rw [if_pos hm]
    exact cutV_miss k
  · rw [if_neg hm] at k
    rw [if_neg hm, cutV_hit k, List.take_left' hz]

set_option maxRecDepth 100000 in
set_option maxHeartbeats 8000000 in
theorem joins_walk (a : Option Addr) (len cap : Nat) (ss : List ByteArray) (kc lenc capc : Nat) (ac : Option Addr) (c : List UInt8) (most : Int) (w : World) (hT : Txts w a len ss) (hc : Src w kc (.slice ac lenc capc) c) (hkc : 0 < c.length → kc < w.heap.size) (hnc : ac = none → capc = 0) :
    Calls Try.prog 3 #[.slice a len cap, .slice ac lenc capc, .int .i64 most] w fun e w' => e = .returned (.bool true) ∧ Below w.heap.size w w' := by
  have hlc := hc.len.1
  have hl0 := hT.2.1
  unfold maxLen at hl0
  obtain ⟨m, hm511, hbt0⟩ := and_mask most 511 (by decide)
  have hbt : bits BinOp.and IntKind.i64 most 511 = (m : Int) := hbt0
  clear hbt0
  go_enter Try.func3, Try.ntmps3
  go_wp2_with fail
  refine (cutting_any _).mono ?_
  rintro e w1 ⟨rfl, B1⟩
  by_cases hlen : len ≤ 20 ∧ lenc ≤ 1000
  · obtain ⟨g1, g2⟩ := hlen
    have i1 : (len : Int) ≤ 20 := by omega
    have i2 : (lenc : Int) ≤ 1000 := by omega
    have C1 : Below w.heap.size w (w1.alloc (.cells #[] 5)) := B1.alloc B1.size _
    have O1 := Own.empty w.heap.size w1 B1.size
    have HC : Hid (Src w kc (.slice ac lenc capc) c) := hc
    have HT : Hid (Txts w a len ss) := hT
    have HLC : Hid (c.length = lenc) := hlc
    clear hc hlc hT B1
    go_wp2_with fail
    go_loopw [7, 29] (fun v7 vi wr => ∃ k : Nat, k ≤ len ∧ vi = .int .i64 k ∧ Hid (Own w.heap.size wr v7 (joinL (ss.take k))) ∧ Hid (∀ s ∈ ss.take k, okT s) ∧ Hid (Below w.heap.size w wr)) (fun _ vi _ => len - (intOf vi).toNat)
    case atStart => exact ⟨0, Nat.zero_le _, rfl, O1, (fun s hs => by cases hs), C1⟩
    case round =>
      obtain ⟨k, hk, rfl, hO, hP, hB⟩ := hrel
      clear O1 C1
      by_cases hlt : k < len
      · obtain ⟨bt, off, rfl, hk', hcell⟩ := (HT.out.below hB.out).at k hlt
        have hsn : Hid (ss.take (k + 1) = ss.take k ++ [ss[k]]) := List.take_succ_eq_append_getElem hk'
        have hsz : ss[k].size ≤ maxLen := HT.out.2.2.1 _ (List.getElem_mem hk')
        unfold maxLen at hsz
        generalize ss[k] = s at *
        clear hk'
        by_cases h5 : s.size ≤ 500
        · have i5 : (s.size : Int) ≤ 500 := by omega
          have hjl : Hid ((joinL (ss.take k)).length ≤ 10040) := by
            have := joinL_len _ hP.out
            rw [List.length_take] at this
            rw [Hid]; omega
          obtain ⟨v2, w2, r2, O2, B2⟩ := own_append_str (s := s) hO.out (by have := hjl.out; omega) hB.out.size
          have hw2 := Nat.le_trans hB.out.size B2.size
          have BA : Below w2.heap.size w2 (w2.alloc (.cells #[.int .u8 13, .int .u8 10] 5)) := (Below.refl _ _).alloc (Nat.le_refl _) _
          obtain ⟨v3, w3, r3, O3, B3⟩ := own_append (O2.keep BA) (lit_src w2 [13, 10] 2 #[.int .u8 13, .int .u8 10] (0, 0) rfl (by decide) rfl) (fun e => by cases e) (by have := hjl.out; have e : s.data.toList.length = s.size := rfl; simp only [List.length_append, List.length_cons, List.length_nil, e]; omega) (Nat.le_trans hw2 BA.size)
          have HO3 : Hid (Own w.heap.size w3 v3 (joinL (ss.take (k + 1)))) := by rw [Hid, hsn.out, joinL_snoc]; exact O3
          have HB3 : Hid (Below w.heap.size w w3) := ((hB.out.trans B2).trans (BA.mono hw2)).trans B3
          have HPP : Hid (plain s.data.toList = true → ∀ x ∈ ss.take (k + 1), okT x) := by
            intro hp x hx
            rw [hsn.out] at hx
            rcases List.mem_append.1 hx with hx | hx
            · exact hP.out x hx
            · rw [List.mem_singleton.1 hx]; exact ⟨h5, hp⟩
          clear O2 O3 B2 B3 BA hw2 hO hP hsn hjl h5
          go_wp2_with fail
          go_loopw [10] (fun vj wx => ∃ j : Nat, j ≤ s.size ∧ vj = .int .i64 j ∧ Hid (plain (s.data.toList.take j) = true) ∧ wx = wr) (fun vj _ => s.size - (intOf vj).toNat)
          case atStart => exact ⟨0, Nat.zero_le _, rfl, rfl, rfl⟩
          case round =>
            obtain ⟨j, hj, rfl, hpl, rfl⟩ := hrel
            by_cases hjs : j < s.size
            · by_cases t1 : s[j] = 13
              · have t2 : (s[j].toNat : Int) = 13 := by rw [t1]; rfl
                clear t1
                go_wp2
                go_ret
                exact ⟨rfl, hB.out⟩
              · by_cases t3 : s[j] = 10
                · have t4 : (s[j].toNat : Int) = 10 := by rw [t3]; rfl
                  clear t1 t3
                  go_wp2
                  go_ret
                  exact ⟨rfl, hB.out⟩
                · have t5 : ((s[j].toNat : Int) == 13) = false := by simpa using toNat_ne 13 13 rfl t1
                  have t6 : ((s[j].toNat : Int) == 10) = false := by simpa using toNat_ne 10 10 rfl t3
                  have HX : Hid (plain (s.data.toList.take (j + 1)) = true) := plain_snoc s j hjs hpl.out t1 t3
                  clear t1 t3
                  go_wp2
                  go_roundw
                  case rel => exact ⟨j + 1, by omega, by go_num, HX, by trivial⟩
                  case measure => simp [intOf]; omega
            · have hp : plain s.data.toList = true := by
                have h := hpl.out
                rw [List.take_of_length_le (by show s.size ≤ j; omega)] at h
                exact h
              have HPX : Hid (∀ x ∈ ss.take (k + 1), okT x) := HPP.out hp
              clear hp hpl HPP
              go_wp2_with (first | (at_builtin; refine wpList_append_run2 rfl _ _ 23 9 rfl _ _ _ w2 rfl rfl r2 ?_) | (at_builtin; refine wpList_append_run2 rfl _ _ 23 23 rfl _ _ _ w3 rfl rfl r3 ?_))
              go_roundw
              case rel => exact ⟨k + 1, by omega, by go_num, HO3, HPX, HB3⟩
              case measure => simp [intOf]; omega
        · have i5 : (500 : Int) < (s.size : Int) := by omega
          go_wp2
          go_ret
          exact ⟨rfl, hB.out⟩
      · have hkl : k = len := by omega
        have hfull : Hid (ss.take k = ss) := by rw [Hid, List.take_of_length_le (by have := HT.out.1; omega)]
        have hjl : Hid ((joinL ss).length ≤ 10040) := by
          have h := hP.out
          rw [hfull.out] at h
          have := joinL_len _ h
          have h2 := HT.out.1
          rw [Hid]; omega
        have HP2 : Hid (∀ s ∈ ss, okT s) := by have h := hP.out; rw [hfull.out] at h; exact h
        have O1 := hO.out
        rw [hfull.out] at O1
        obtain ⟨v2, w2, r2, O2, B2⟩ := own_append O1 (HC.out.keep hkc hB.out) hnc (by have := hjl.out; have := HLC.out; omega) hB.out.size
        have HB2 : Hid (Below w.heap.size w w2) := hB.out.trans B2
        obtain ⟨ge, S2, _⟩ := O2.src
        have HS2 : Hid (Src w2 ge v2 (joinL ss ++ c)) := S2
        have HT2 : Hid (Txts w2 a len ss) := HT.out.below HB2.out
        have HC2 : Hid (Src w2 kc (.slice ac lenc capc) c) := HC.out.keep hkc HB2.out
        clear O1 O2 B2 S2 hO hP hB hfull hjl HT HC hkc hnc
        subst hkl
        go_wp2_with (at_builtin; refine wpList_append_run2 rfl _ _ 23 23 rfl _ _ _ w2 rfl rfl r2 ?_)
        go_loopw [7, 65] (fun v7 vi wx => ∃ k' : Nat, k' ≤ k ∧ vi = .int .i64 k' ∧ Hid (Src w2 ge v7 (joinL (ss.drop k') ++ c)) ∧ wx = w2) (fun _ vi _ => k - (intOf vi).toNat)
        case atStart => exact ⟨0, Nat.zero_le _, rfl, HS2, rfl⟩
        case round =>
          obtain ⟨i, hi, rfl, hS, hwx⟩ := hrel
          subst hwx
          clear HS2 r2
          by_cases hik : i < k
          · obtain ⟨bt, off, rfl, hi', hcell⟩ := HT2.out.at i hik
            have hdr : Hid (ss.drop i = ss[i] :: ss.drop (i + 1)) := List.drop_eq_getElem_cons hi'
            have hok : Hid (okT ss[i]) := HP2.out _ (List.getElem_mem hi')
            generalize ss[i] = s at *
            clear hi'
            have hje : Hid (joinL (ss.drop i) ++ c = s.data.toList ++ 13 :: 10 :: (joinL (ss.drop (i + 1)) ++ c)) := by rw [Hid, hdr.out, joinL_cons]; simp
            obtain ⟨al, cl, rfl, hl1, hl2, hl3⟩ := hS.out
            have HCUT := cut_any (joinL (ss.drop i) ++ c) ge _ (m : Int) _ hS.out
            rw [Int.toNat_natCast] at HCUT
            have hcv := cutV_plain m s (joinL (ss.drop (i + 1)) ++ c) hok.out.2
            rw [← hje.out] at hcv
            rw [hcv] at HCUT
            obtain ⟨n, hn⟩ : ∃ n, n = (joinL (ss.drop i) ++ c).length := ⟨_, rfl⟩
            rw [← hn] at HCUT hl1 ⊢
            have HN : Hid (n = (joinL (ss.drop i) ++ c).length) := hn
            have hs5 : s.size ≤ 500 := hok.out.1
            have hns : s.size + 2 ≤ n := by rw [hn, hje.out]; have e : s.data.toList.length = s.size := rfl; simp only [List.length_append, List.length_cons, e]; omega
            unfold maxLen at hl2
            have HSC : Hid (∀ a' : Option Addr, (s.size + 2 < cl → a' = al.map (fun x => x.add (s.size + 2))) → Src wr ge (.slice a' (n - (s.size + 2)) (cl - (s.size + 2))) (joinL (ss.drop (i + 1)) ++ c)) := by
              intro a' ha'
              have hS1 := hS.out
              rw [← hn] at hS1
              have hx := hS1.cut (m := s.size + 2) (by omega) ha'
              have hd : (joinL (ss.drop i) ++ c).drop (s.size + 2) = joinL (ss.drop (i + 1)) ++ c := by
                rw [hje.out, show s.data.toList ++ 13 :: 10 :: (joinL (ss.drop (i + 1)) ++ c) = (s.data.toList ++ [13, 10]) ++ (joinL (ss.drop (i + 1)) ++ c) by simp]
                exact List.drop_left' (by rw [List.length_append]; rfl)
              rw [hd] at hx
              exact hx
            clear hn hcv hl3
            by_cases hms : m < s.size
            · rw [if_pos hms] at HCUT
              have him : (m : Int) < (s.size : Int) := by omega
              have HCUT2 : Hid (Calls Try.prog 5 #[.slice al n cl, .int .i64 (m : Int)] wr fun e w' => e = .returned (.tuple #[.string ⟨#[]⟩, .int .i64 0, .int .i64 2]) ∧ w' = wr) := HCUT
              clear HCUT hms
              go_wp2_with fail
              refine HCUT2.out.mono ?_
              rintro e w5 ⟨rfl, rfl⟩
              go_wp2
              go_ret
              exact ⟨rfl, HB2.out⟩
            · rw [if_neg hms] at HCUT
              have him : ¬ (m : Int) < (s.size : Int) := by omega
              have HCUT2 : Hid (Calls Try.prog 5 #[.slice al n cl, .int .i64 (m : Int)] wr fun e w' => e = .returned (.tuple #[.string s, .int .i64 ((s.size : Int) + 2), .int .i64 0]) ∧ w' = wr) := HCUT
              clear HCUT hms
              go_wp2_with fail
              refine HCUT2.out.mono ?_
              rintro e w5 ⟨rfl, rfl⟩
              go_wp2
              all_goals
                go_roundw
                case rel =>
                  refine ⟨i + 1, by omega, by go_num, ?_, by trivial⟩
                  first
                    | exact HSC.out _ (fun h => if_neg (by omega))
                    | exact HSC.out _ (fun _ => rfl)
                    | (have hx := HSC.out al (fun h => by omega); rw [show cl - (s.size + 2) = 0 by omega] at hx; exact hx)
                case measure => simp [intOf]; omega
          · have hki : i = k := by omega
            have hS1 := hS.out
            rw [List.drop_eq_nil_of_le (by have := HT2.out.1; omega)] at hS1
            have HSM : Hid (Calls Try.prog 6 #[_, .slice ac lenc capc] wr fun e w' => e = .returned (.bool true) ∧ Below wr.heap.size wr w') := sameBytes_eq c _ _ _ _ wr hS1 HC2.out
            clear hS1 hS
            go_wp2_with fail
            refine HSM.out.mono ?_
            rintro e w7 ⟨rfl, B7⟩
            go_wp2
            go_ret
            exact ⟨rfl, HB2.out.trans (B7.mono HB2.out.size)⟩
  · have hor : (20 : Int) < (len : Int) ∨ ((len : Int) ≤ 20 ∧ (1000 : Int) < (lenc : Int)) := by omega
    clear hc hT hkc hnc hlen hlc
    rcases hor with h | ⟨h, h'⟩
    · go_wp2
      go_ret
      exact ⟨rfl, B1⟩
    · go_wp2
      go_ret
      exact ⟨rfl, B1⟩
end Go.Proofs.Ytbmpfjmnedlahab
