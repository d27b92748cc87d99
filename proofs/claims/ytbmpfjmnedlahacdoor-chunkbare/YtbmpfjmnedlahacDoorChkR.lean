/- Chunks of any sizes: plain lemmas; whether a text has a byte that no value has. -/
import Derived.Test.YtbmpfjmnedlahacDoorChkJ
import Derived.Test.YtbmpfjmnedlahacDoorSgnB
namespace Go.Proofs.YtbmpfjmnedlahacDoor
open Go.RowKit
set_option linter.unusedVariables false

/-- x is k chunks of the bytes want. -/
def Chs (x want : List UInt8) (k : Nat) : Prop := ∀ (g m : Nat) (tail : List UInt8), want.length ≤ m → decL (g + k) m (x ++ tail) = plusD want x.length (decL g (m - want.length) tail)
theorem Chs.nil : Chs [] [] 0 := by
  intro g m tail _
  rw [List.nil_append, Nat.add_zero]
  exact (plusD_zero _ (decL_ok _ _ _)).symm
theorem Chs.snoc {x want : List UInt8} {k : Nat} (h : Chs x want k) (s d : List UInt8) (hp : plain s = true) (hl : s.length ≤ 256) (hz : szO s = some d.length) (h0 : 0 < d.length) : Chs (x ++ (s ++ [13, 10] ++ d ++ [13, 10])) (want ++ d) (k + 1) := by
  intro g m tail hm
  rw [List.length_append] at hm
  have hone := oneP_chunk (m - want.length) d.length s d tail hp hl hz rfl h0 (by omega)
  rw [List.append_assoc, show g + (k + 1) = (g + 1) + k by omega, h (g + 1) m _ (by omega)]
  have hx : s ++ [13, 10] ++ d ++ [13, 10] ++ tail = s ++ 13 :: 10 :: (d ++ 13 :: 10 :: tail) := by simp
  have hd1 : (s ++ 13 :: 10 :: (d ++ 13 :: 10 :: tail)).drop (s.length + 2) = d ++ 13 :: 10 :: tail := by
    rw [show s ++ 13 :: 10 :: (d ++ 13 :: 10 :: tail) = (s ++ [13, 10]) ++ (d ++ 13 :: 10 :: tail) by simp]
    exact List.drop_left' (by simp)
  have hd2 : (s ++ 13 :: 10 :: (d ++ 13 :: 10 :: tail)).drop (s.length + 2 + d.length + 2) = tail := by
    rw [← hx]
    exact List.drop_left' (by simp only [List.length_append, List.length_cons, List.length_nil])
  rw [hx, decL_next hone (by omega) (by omega), hd1, hd2, List.take_left' rfl, plusD_plusD _ _ _ _ _ (by omega)]
  congr 1
  · simp only [List.length_append, List.length_cons, List.length_nil]
  · rw [List.length_append, Nat.sub_sub]
theorem Chs.done {x want : List UInt8} {k : Nat} (h : Chs x want k) (m : Nat) (hm : want.length ≤ m) (hk : k ≤ x.length) : decR m (x ++ [48, 13, 10, 13, 10]) = (want, (x ++ [48, 13, 10, 13, 10]).length, 0) := by
  have h1 : trailL 40 [13, 10] = (2, 0) := trailL_end (by decide)
  unfold decR
  obtain ⟨g, hg⟩ : ∃ g, (x ++ [48, 13, 10, 13, 10]).length + 1 = (g + 1) + k := ⟨(x ++ [48, 13, 10, 13, 10]).length - k, by rw [List.length_append]; omega⟩
  rw [hg, h (g + 1) m _ hm, decL_last (oneP_zero _ [13, 10]) (by decide)]
  show plusD want x.length (plusD [] 3 ([], trailL 40 [13, 10])) = _
  rw [h1]
  unfold plusD
  rw [if_neg (by decide), if_neg (by decide), List.append_nil, List.append_nil, List.length_append]
  rfl
/-- A digit, in small or great letters. -/
def dgt (gr : Bool) (d : Nat) : UInt8 := if gr then (if d < 10 then (48 + d).toUInt8 else (55 + d).toUInt8) else hexD d
theorem dgN_dgt (gr : Bool) (d : Nat) (h : d < 16) : dgN (dgt gr d) = d := by
  cases gr
  · exact dgN_hex d h
  · have h10 : d = 0 ∨ d = 1 ∨ d = 2 ∨ d = 3 ∨ d = 4 ∨ d = 5 ∨ d = 6 ∨ d = 7 ∨ d = 8 ∨ d = 9 ∨ d = 10 ∨ d = 11 ∨ d = 12 ∨ d = 13 ∨ d = 14 ∨ d = 15 := by omega
    rcases h10 with rfl | rfl | rfl | rfl | rfl | rfl | rfl | rfl | rfl | rfl | rfl | rfl | rfl | rfl | rfl | rfl <;> decide
theorem vN_zeros (z : Nat) (l : List UInt8) : vN 16 (List.replicate z 48 ++ l) = vN 16 l := by
  induction z with
  | zero => rfl
  | succ z ih =>
    rw [List.replicate_succ, List.cons_append]
    unfold vN at ih ⊢
    rw [List.foldl_cons]
    exact ih
def szDig (z : Nat) (gr : Bool) (n : Nat) : List UInt8 := List.replicate z 48 ++ [dgt gr (n / 16), dgt gr (n % 16)]
theorem szDig_v (z : Nat) (gr : Bool) (n : Nat) (hn : n ≤ 255) : vN 16 (szDig z gr n) = some n := by
  unfold szDig
  rw [vN_zeros]
  have h1 := dgN_dgt gr (n / 16) (by omega)
  have h2 := dgN_dgt gr (n % 16) (by omega)
  simp only [vN, List.foldl_cons, List.foldl_nil, stepV, Option.bind_some, h1, h2]
  rw [if_pos (by omega)]
  simp only [Option.bind_some]
  rw [if_pos (by omega)]
  congr 1
  omega
theorem szDig_all (z : Nat) (gr : Bool) (n : Nat) (hn : n ≤ 255) : ∀ b ∈ szDig z gr n, dgN b < 16 := by
  intro b hb
  unfold szDig at hb
  rcases List.mem_append.1 hb with hb | hb
  · rw [(List.mem_replicate.1 hb).2]; decide
  · cases hb with
    | head => rw [dgN_dgt gr _ (by omega)]; omega
    | tail _ hb => rw [List.mem_singleton.1 hb, dgN_dgt gr _ (by omega)]; omega
theorem szDig_len (z : Nat) (gr : Bool) (n : Nat) : (szDig z gr n).length = z + 2 := by unfold szDig; simp
theorem plain_append (a b : List UInt8) (ha : plain a = true) (hb : plain b = true) : plain (a ++ b) = true := by unfold plain at *; rw [List.all_append, ha, hb]; rfl
theorem plain_val (l : List UInt8) (h : allB valP l = true) : plain l = true := by
  unfold allB at h
  unfold plain
  rw [List.all_eq_true] at h ⊢
  intro b hb
  have := h b hb
  by_cases e1 : b = 13
  · subst e1; exact absurd this (by decide)
  · by_cases e2 : b = 10
    · subst e2; exact absurd this (by decide)
    · simp [e1, e2]
/-- A chunk's line. -/
def szLine (z : Nat) (gr : Bool) (n : Nat) (wd : List UInt8) : List UInt8 := szDig z gr n ++ [32] ++ 59 :: wd
theorem szLine_ok (z : Nat) (gr : Bool) (n : Nat) (wd : List UInt8) (hz : z ≤ 7) (hn : n ≤ 255) (hw : allB valP wd = true) (hwl : wd.length ≤ 50) : plain (szLine z gr n wd) = true ∧ (szLine z gr n wd).length ≤ 256 ∧ szO (szLine z gr n wd) = some n := by
  have hl := szDig_len z gr n
  refine ⟨?_, ?_, ?_⟩
  · unfold szLine
    refine plain_append _ _ (plain_append _ _ (plain_dig _ (szDig_all z gr n hn)) (by decide)) ?_
    exact plain_append [59] wd (by decide) (plain_val wd hw)
  · unfold szLine
    simp only [List.length_append, List.length_cons, List.length_nil, hl]
    omega
  · exact szO_ext (szDig z gr n) wd n (szDig_all z gr n hn) (by omega) (by omega) (szDig_v z gr n hn) hw
theorem valP_bad (c : Int) (h0 : 0 ≤ c) (h1 : c < 256) : valP c = false ↔ ((c < 32 ∧ c ≠ 9) ∨ c = 127) := by
  have hex : ∃ n : Nat, n < 256 ∧ c = (n : Int) := ⟨c.toNat, by omega, by omega⟩
  obtain ⟨n, hn, rfl⟩ := hex
  have hall : ∀ n : Fin 256, (valP ((n.val : Nat) : Int) = false ↔ ((((n.val : Nat) : Int) < 32 ∧ ((n.val : Nat) : Int) ≠ 9) ∨ ((n.val : Nat) : Int) = 127)) := by decide +kernel
  exact hall ⟨n, hn⟩

set_option maxHeartbeats 1000000 in
theorem bad6_any (s : ByteArray) (w : World) (hs : s.size ≤ 1000) : Calls Tryd.prog 7 #[.string s] w fun e w' => e = .returned (.bool (!allB valP s.data.toList)) ∧ w' = w := by
  go_enter Tryd.func7, Tryd.ntmps7
  go_wp2
  go_loop [3] (fun i => ∃ k : Nat, k ≤ s.size ∧ i = .int .i64 k ∧ Hid (allB valP (s.data.toList.take k) = true)) (fun i => s.size - (intOf i).toNat)
  case atStart => exact ⟨0, Nat.zero_le _, rfl, rfl⟩
  case round =>
    obtain ⟨k, hk, rfl, hA⟩ := hrel
    by_cases hlt : k < s.size
    · have bd := byte_bd s[k]
      have hv := valP_bad (s[k].toNat : Int) bd.1 bd.2
      by_cases hb : ((s[k].toNat : Int) < 32 ∧ (s[k].toNat : Int) ≠ 9) ∨ (s[k].toNat : Int) = 127
      · have HF : Hid (allB valP s.data.toList = false) := allB_false s k hlt (hv.2 hb)
        clear hv
        have hcase : ((s[k].toNat : Int) < 32 ∧ ((s[k].toNat : Int) != 9) = true) ∨ (¬ (s[k].toNat : Int) < 32 ∧ ((s[k].toNat : Int) == 127) = true) := by
          rcases hb with ⟨h1, h2⟩ | h1
          · exact .inl ⟨h1, by simpa using h2⟩
          · exact .inr ⟨by omega, by simpa using h1⟩
        clear hb
        rcases hcase with ⟨h1, h2⟩ | ⟨h1, h2⟩
        · go_wp2
          go_ret
          exact ⟨ret_b (by rw [HF.out]; rfl), rfl⟩
        · go_wp2
          go_ret
          exact ⟨ret_b (by rw [HF.out]; rfl), rfl⟩
      · have hvt : valP (s[k].toNat : Int) = true := by
          cases hx : valP (s[k].toNat : Int)
          · exact absurd (hv.1 hx) hb
          · rfl
        have HX : Hid (allB valP (s.data.toList.take (k + 1)) = true) := allB_snoc s k hlt hA.out hvt
        clear hv hvt
        have hcase : ((s[k].toNat : Int) < 32 ∧ ((s[k].toNat : Int) != 9) = false ∧ ((s[k].toNat : Int) == 127) = false) ∨ (¬ (s[k].toNat : Int) < 32 ∧ ((s[k].toNat : Int) == 127) = false) := by
          have hb1 : ¬ (s[k].toNat : Int) = 127 := fun h => hb (.inr h)
          by_cases h1 : (s[k].toNat : Int) < 32
          · refine .inl ⟨h1, ?_, by simpa using hb1⟩
            by_cases h9 : (s[k].toNat : Int) = 9
            · simp [h9]
            · exact absurd (.inl ⟨h1, h9⟩) hb
          · exact .inr ⟨h1, by simpa using hb1⟩
        clear hb
        rcases hcase with ⟨h1, h2, h3⟩ | ⟨h1, h2⟩
        · go_wp2
          go_round
          case rel => exact ⟨k + 1, by omega, by go_num, HX⟩
          case measure => simp [intOf]; omega
        · go_wp2
          go_round
          case rel => exact ⟨k + 1, by omega, by go_num, HX⟩
          case measure => simp [intOf]; omega
    · have h := hA.out
      rw [List.take_of_length_le (by show s.size ≤ k; omega)] at h
      have HT : Hid (allB valP s.data.toList = true) := h
      clear h
      go_wp2
      go_ret
      exact ⟨ret_b (by rw [HT.out]; rfl), rfl⟩
end Go.Proofs.YtbmpfjmnedlahacDoor
