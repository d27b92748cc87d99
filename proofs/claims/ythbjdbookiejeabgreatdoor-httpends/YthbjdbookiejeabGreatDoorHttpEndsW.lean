/- Whatever the body and the code, HttpEnds answers true: a response without lengths goes to the end, up to as many bytes as may be, and one without a body is whole at once; no condition. -/
import Derived.Test.YthbjdbookiejeabGreatDoorKb
import Derived.Lib.SmallJoins
import Derived.Test.YthbjdbookiejeabGreatDoorKj
import Derived.Test.YthbjdbookiejeabGreatDoorKi
import Derived.Test.YthbjdbookiejeabGreatDoorRows
import Derived.Test.YthbjdbookiejeabGreatDoorCards
import Derived.Test.YthbjdbookiejeabGreatDoorTie
import Derived.Test.YthbjdbookiejeabGreatDoorKf
import Derived.WalkKit
import Derived.ProofKit
import Derived.OpenShut
import Derived.ShutString
import Derived.ChangeOld
import Derived.Below
import Derived.LaidMore
import Derived.Lay
import Derived.Stop.Joined
import Derived.SevenTiedAt
import Derived.Shelf.Vars
import Derived.Deep.DeepHandedRow
import Derived.Deep.DeepWitnessRowRef
/- The reference's Decimal: a number in decimal digits. -/
namespace Go.Proofs.YthbjdbookiejeabGreatDoor
open Go.RowKit
set_option linter.unusedVariables false

def dD (d : Nat) : UInt8 := UInt8.ofNat (48 + d)
def decGo : Nat → Nat → List UInt8 → List UInt8
  | 0, _, acc => acc
  | f + 1, u, acc => if u < 10 then dD u :: acc else decGo f (u / 10) (dD (u % 10) :: acc)
def decT (n : Nat) : List UInt8 := decGo 20 n []
theorem decGo_step (f u : Nat) (acc : List UInt8) (h : ¬ u < 10) : decGo (f + 1) u acc = decGo f (u / 10) (dD (u % 10) :: acc) := by rw [decGo, if_neg h]
theorem decGo_end (f u : Nat) (acc : List UInt8) (h : u < 10) : decGo (f + 1) u acc = dD u :: acc := by rw [decGo, if_pos h]
def JD (n u : Nat) (acc : List UInt8) : Prop := (acc = [] ∧ u = n) ∨ (acc ≠ [] ∧ ((u = 0 ∧ acc = decT n) ∨ (0 < u ∧ ∃ f, u < 10 ^ (f + 1) ∧ decGo (f + 1) u acc = decT n)))
theorem JD_step {n u : Nat} {acc : List UInt8} (hn : n < 10 ^ 20) (h : JD n u acc) (c : acc = [] ∨ 0 < u) : JD n (u / 10) (dD (u % 10) :: acc) := by
  refine .inr ⟨by simp, ?_⟩
  have key : ∃ f, u < 10 ^ (f + 1) ∧ decGo (f + 1) u acc = decT n := by
    rcases h with ⟨rfl, rfl⟩ | ⟨h1, h2⟩
    · exact ⟨19, hn, rfl⟩
    · rcases h2 with ⟨h2, _⟩ | ⟨_, h2⟩
      · rcases c with c | c
        · exact absurd c h1
        · omega
      · exact h2
  obtain ⟨f, hf, hg⟩ := key
  by_cases k : u < 10
  · left
    rw [decGo_end _ _ _ k] at hg
    exact ⟨by omega, by rw [Nat.mod_eq_of_lt k]; exact hg⟩
  · right
    rw [decGo_step _ _ _ k] at hg
    cases f with
    | zero => simp at hf; omega
    | succ f => exact ⟨by omega, f, by rw [Nat.pow_succ, Nat.mul_comm] at hf; exact Nat.div_lt_of_lt_mul hf, hg⟩
theorem JD_end {n : Nat} {acc : List UInt8} (h : JD n 0 acc) (c : acc ≠ []) : acc = decT n := by
  rcases h with ⟨h1, _⟩ | ⟨_, ⟨_, h2⟩ | ⟨h2, _⟩⟩
  · exact absurd h1 c
  · exact h2
  · omega
theorem dret_s {a b : ByteArray} (h : a = b) : Ending.returned (.string a) = .returned (.string b) := by rw [h]
theorem dbytes_ext {a : ByteArray} {l : List UInt8} (h : a.data.toList = l) : a = ⟨l.toArray⟩ := by
  obtain ⟨⟨l'⟩⟩ := a
  simp at h
  rw [h]
theorem dcons_data (b : UInt8) (o : ByteArray) : ((⟨#[b]⟩ : ByteArray) ++ o).data.toList = b :: o.data.toList := by
  rw [Joins.data_append]; rfl
theorem dconv1 (W : World) (x : Int) (b : UInt8) (h : (b.toNat : Int) = x) : (convert 22 9 (.slice (some ⟨W.heap.size, 0, none⟩) 1 1)).run Tryz.prog (W.alloc (.cells #[.int .u8 x] 5)) = .ok (.string ⟨#[b]⟩) (W.alloc (.cells #[.int .u8 x] 5)) := by
  have k := run_convert_bytes_back (P := Tryz.prog) (W.alloc (.cells #[.int .u8 x] 5)) 22 9 5 ⟨W.heap.size, 0, none⟩ 1 [b] Tryz.underlying22 Tryz.underlying5 Tryz.underlying9 (fun j hj => by
    obtain rfl : j = 0 := by simpa using hj
    rw [addr_add]
    exact ring_cell (new_at _ _) (by simp [h]))
  exact k
def dmsr (vn vo : Value) : Nat := (intOf vn).toNat + (match vo with | .string o => if o.size = 0 then 1 else 0 | _ => 0)
theorem dmsr_lt {u u' : Nat} {o o' : ByteArray} (h : o.size = 0 ∨ 0 < u) (hu : u' ≤ u) (hd : 0 < u → u' < u) (ho : ¬ o'.size = 0) : dmsr (.int .i64 u') (.string o') < dmsr (.int .i64 u) (.string o) := by
  unfold dmsr intOf
  simp only [Int.toNat_natCast]
  rw [if_neg ho]
  rcases h with h | h
  · rw [if_pos h]; omega
  · have := hd h; split <;> omega
theorem dcons_size (b : UInt8) (o : ByteArray) : ¬ ((⟨#[b]⟩ : ByteArray) ++ o).size = 0 := by
  have h : ((⟨#[b]⟩ : ByteArray) ++ o).data.toList.length ≠ 0 := by rw [dcons_data]; simp
  exact h
theorem dwrap64_in (x : Int) (h0 : 0 ≤ x) (h1 : x < 9223372036854775808) : wrap64 x = x := by unfold wrap64; omega
theorem dcons_sizea (b : UInt8) (o : ByteArray) : ((⟨#[b]⟩ : ByteArray) ++ o).size = o.size + 1 := by
  have h : ((⟨#[b]⟩ : ByteArray) ++ o).data.toList.length = o.data.toList.length + 1 := by rw [dcons_data]; simp
  exact h
theorem dD_lo (d : Nat) (h : d ≤ 9) : ((dD d).toNat : Int) = 48 + d := by
  have h10 : d = 0 ∨ d = 1 ∨ d = 2 ∨ d = 3 ∨ d = 4 ∨ d = 5 ∨ d = 6 ∨ d = 7 ∨ d = 8 ∨ d = 9 := by omega
  rcases h10 with rfl | rfl | rfl | rfl | rfl | rfl | rfl | rfl | rfl | rfl <;> decide

set_option maxRecDepth 100000 in
set_option maxHeartbeats 4000000 in
theorem rdec_nat (n : Nat) (hn : n < 9223372036854775808) (w : World) :
    Calls Tryz.prog 14 #[.int .i64 n] w fun e w' => e = .returned (.string ⟨(decT n).toArray⟩) ∧ Below w.heap.size w w' := by
  have h0 : ¬ (n : Int) < 0 := by omega
  go_enter Tryz.func14, Tryz.ntmps14
  go_wp2_with fail
  clear h0
  go_loopw [0, 3] (fun vn vo wr => ∃ (u f : Nat) (o : ByteArray), vn = .int .i64 u ∧ vo = .string o ∧ u < 9223372036854775808 ∧ f + o.size ≤ 20 ∧ Hid (u < 10 ^ f) ∧ Hid (JD n u o.data.toList) ∧ Below w.heap.size w wr) (fun vn vo _ => dmsr vn vo)
  case atStart => exact ⟨n, 19, ⟨#[]⟩, rfl, rfl, hn, by decide, Nat.lt_of_lt_of_le hn (by decide), .inl ⟨rfl, rfl⟩, Below.refl _ _⟩
  case round =>
    obtain ⟨u, f, o, rfl, rfl, hu, hfo, hf, hj, hB⟩ := hrel
    have HU : Hid (u < 9223372036854775808) := hu
    clear hu
    have ho : (o.size : Int) ≤ 20 := by omega
    have HN : Hid (n < 9223372036854775808) := hn
    clear hn
    obtain ⟨b, hb1, hb2⟩ : ∃ b : UInt8, (b.toNat : Int) = 48 + (u : Int) % 10 ∧ b = dD (u % 10) := ⟨_, dD_lo (u % 10) (by omega) |>.trans (by omega), rfl⟩
    by_cases hz : o.size = 0
    · have hcv := dconv1 wr (48 + (u : Int) % 10) b hb1
      have hcat := fun W : World => run_string_add (P := Tryz.prog) (w := W) ⟨#[b]⟩ o (show ((1 : Nat) : Int) ≤ 8388608 by decide) (by omega)
      have HS : Hid (JD n (u / 10) ((⟨#[b]⟩ : ByteArray) ++ o).data.toList) := by
        rw [Hid, dcons_data, hb2]; exact JD_step (Nat.lt_of_lt_of_le HN.out (by decide)) hj.out (.inl (List.eq_nil_of_length_eq_zero hz))
      have HF : Hid (∃ f', f' + ((⟨#[b]⟩ : ByteArray) ++ o).size ≤ 20 ∧ u / 10 < 10 ^ f') := by
        rw [Hid, dcons_sizea]
        have h := hf.out
        cases f with
        | zero => exact ⟨0, by omega, by have : u < 1 := h; omega⟩
        | succ f' => exact ⟨f', by omega, by rw [Nat.pow_succ, Nat.mul_comm] at h; exact Nat.div_lt_of_lt_mul h⟩
      have HM : Hid (dmsr (.int .i64 ((u / 10 : Nat) : Int)) (.string ((⟨#[b]⟩ : ByteArray) ++ o)) < dmsr (.int .i64 (u : Int)) (.string o)) := dmsr_lt (.inl hz) (by omega) (fun h => by omega) (dcons_size _ _)
      clear hb1 hb2
      have he := empty_of hz
      subst he
      go_wp2
      go_roundw
      case rel => obtain ⟨f', q1, q2⟩ := HF.out; have hu := HU.out; exact ⟨u / 10, f', _, by rw [dwrap64_in _ (by omega) (by omega)]; go_num, rfl, by omega, q1, q2, HS, hB.alloc hB.size _⟩
      case measure => have hu := HU.out; rw [dwrap64_in _ (by omega) (by omega)]; exact HM.out
    · by_cases hpos : (0 : Int) < (u : Int)
      · have hcv := dconv1 wr (48 + (u : Int) % 10) b hb1
        have hcat := fun W : World => run_string_add (P := Tryz.prog) (w := W) ⟨#[b]⟩ o (show ((1 : Nat) : Int) ≤ 8388608 by decide) (by omega)
        have HS : Hid (JD n (u / 10) ((⟨#[b]⟩ : ByteArray) ++ o).data.toList) := by
          rw [Hid, dcons_data, hb2]; exact JD_step (Nat.lt_of_lt_of_le HN.out (by decide)) hj.out (.inr (by omega))
        have HF : Hid (∃ f', f' + ((⟨#[b]⟩ : ByteArray) ++ o).size ≤ 20 ∧ u / 10 < 10 ^ f') := by
          rw [Hid, dcons_sizea]
          have h := hf.out
          cases f with
          | zero => exact ⟨0, by have : u < 1 := h; omega, by have : u < 1 := h; omega⟩
          | succ f' => exact ⟨f', by omega, by rw [Nat.pow_succ, Nat.mul_comm] at h; exact Nat.div_lt_of_lt_mul h⟩
        have HM : Hid (dmsr (.int .i64 ((u / 10 : Nat) : Int)) (.string ((⟨#[b]⟩ : ByteArray) ++ o)) < dmsr (.int .i64 (u : Int)) (.string o)) := dmsr_lt (.inr (by omega)) (by omega) (fun h => by omega) (dcons_size _ _)
        clear hb1 hb2
        have hne2 := isEmpty_of hz
        clear hz
        go_wp2
        go_roundw
        case rel => obtain ⟨f', q1, q2⟩ := HF.out; have hu := HU.out; exact ⟨u / 10, f', _, by rw [dwrap64_in _ (by omega) (by omega)]; go_num, rfl, by omega, q1, q2, HS, hB.alloc hB.size _⟩
        case measure => have hu := HU.out; rw [dwrap64_in _ (by omega) (by omega)]; exact HM.out
      · have hu0 : u = 0 := by omega
        have HE : Hid (o = ⟨(decT n).toArray⟩) := by
          have h := hj.out
          rw [hu0] at h
          exact dbytes_ext (JD_end h (fun e => hz (congrArg List.length e)))
        have hne2 := isEmpty_of hz
        clear hz hb1 hb2
        go_wp2
        go_ret
        exact ⟨dret_s HE.out, hB⟩

end Go.Proofs.YthbjdbookiejeabGreatDoor

/- HttpEnds, plain: a response whose head says no length. -/
namespace Go.Proofs.YthbjdbookiejeabGreatDoor
open Go.RowKit
set_option linter.unusedVariables false

def tHead : ByteArray := ⟨#[72, 69, 65, 68]⟩
def eFirst (c : Nat) : List UInt8 := [72, 84, 84, 80, 47, 49, 46, 49, 32] ++ decT (200 + c) ++ [32, 120, 13, 10, 65, 58, 32, 98, 13, 10, 13, 10]
def chkE (c : Nat) : Bool := decide ((eFirst c).length = 24) && (decide ((headL stSt (eFirst c)).2.1 = 24) && (decide ((headL stSt (eFirst c)).1.length = 1) && (decide (toldF (headL stSt (eFirst c)).1 1 = (3, 0, 0)) && (decide ((statP (firstL (eFirst c))).code = 200 + (c : Int)) && decide ((statP (firstL (eFirst c))).minor = 1)))))
theorem chkE_all : ∀ c : Fin 256, chkE c.val = true := by decide +kernel
structure EndF (c : Nat) : Prop where
  len : (eFirst c).length = 24
  n : (headL stSt (eFirst c)).2.1 = 24
  one : (headL stSt (eFirst c)).1.length = 1
  told : toldF (headL stSt (eFirst c)).1 1 = (3, 0, 0)
  code : (statP (firstL (eFirst c))).code = 200 + (c : Int)
  minor : (statP (firstL (eFirst c))).minor = 1
theorem endF (c : Nat) (hc : c ≤ 255) : EndF c := by
  have k := chkE_all ⟨c, by omega⟩
  unfold chkE at k
  simp only [Bool.and_eq_true, decide_eq_true_eq] at k
  obtain ⟨k1, k2, k3, k4, k5, k6⟩ := k
  exact ⟨k1, k2, k3, k4, k5, k6⟩
def eFs (c : Nat) : Fs := (headL stSt (eFirst c)).1
def eRs (c : Nat) : ByteArray := (statP (firstL (eFirst c))).reason
def bareC (c : Nat) : Bool := decide (200 + (c : Int) = 204) || decide (200 + (c : Int) = 304)
theorem rres_end (c : Nat) (hc : c ≤ 255) (body : List UInt8) (m : ByteArray) (e : Bool) :
    rresQ (eFirst c ++ body) m e = rbodyQ (statP (firstL (eFirst c))) (eFs c) (eFirst c ++ body) 24 (if (decide (m = tHead) || bareC c) = true then (0, 0, true) else (3, 0, true)) e := by
  have F := endF c hc
  have h0 : ¬ (headL stSt (eFirst c)).2.1 = 0 := by rw [F.n]; decide
  obtain ⟨e1, e2⟩ := headL_app stSt (eFirst c) body (.inl h0)
  unfold rresQ
  rw [e1, if_neg h0, e2 h0, F.n]
  congr 1
  unfold respF
  rw [F.code, F.minor]
  have hb : bareF m (200 + (c : Int)) = (decide (m = tHead) || bareC c) := by
    unfold bareF bareC tHead
    rw [show decide (200 + (c : Int) < 200) = false from decide_eq_false (by omega), Bool.or_false, Bool.or_assoc]
  rw [hb]
  have ft := F.told
  unfold eFs at *
  rw [ft]
  rfl
theorem body0 (b : List UInt8) : bodyQ b 24 0 false = ([], 24, 0) := by
  unfold bodyQ
  rw [if_neg (by decide), if_neg (by omega)]
  rfl
/-- Without a body. -/
theorem resp_none (c : Nat) (hc : c ≤ 255) (body : List UInt8) (m : ByteArray) (e : Bool) (h : (decide (m = tHead) || bareC c) = true) :
    respQ (eFirst c ++ body) m e = ⟨200 + (c : Int), eRs c, 1, eFs c, [], 24, true⟩ := by
  have F := endF c hc
  unfold respQ
  rw [rres_end c hc body m e, if_pos h]
  unfold rbodyQ
  rw [if_neg (by decide), if_neg (by decide)]
  simp only
  rw [show decide ((0 : Int) = 2) = false from rfl, body0]
  unfold respOf
  show (if (24 : Nat) = 0 then _ else _) = _
  rw [if_neg (by decide)]
  simp only
  rw [F.code, F.minor]
  rfl
/-- To the end. -/
theorem resp_long (c : Nat) (hc : c ≤ 255) (body : List UInt8) (m : ByteArray) (e : Bool) (h : (decide (m = tHead) || bareC c) = false) (hb : 4096 < body.length) : respQ (eFirst c ++ body) m e = rpNo false := by
  have F := endF c hc
  unfold respQ
  rw [rres_end c hc body m e, if_neg (by rw [h]; decide)]
  unfold rbodyQ
  rw [if_pos rfl, if_neg (by rw [List.length_append, F.len]; omega)]
  cases e <;> rfl
theorem resp_end (c : Nat) (hc : c ≤ 255) (body : List UInt8) (m : ByteArray) (h : (decide (m = tHead) || bareC c) = false) (hb : ¬ 4096 < body.length) : respQ (eFirst c ++ body) m true = ⟨200 + (c : Int), eRs c, 1, eFs c, body, 24 + body.length, true⟩ := by
  have F := endF c hc
  unfold respQ
  rw [rres_end c hc body m true, if_neg (by rw [h]; decide)]
  unfold rbodyQ
  have hl : (eFirst c ++ body).length = 24 + body.length := by rw [List.length_append, F.len]
  rw [if_pos rfl, if_pos (by rw [hl]; omega), if_pos rfl]
  unfold respOf
  simp only
  have hd : (eFirst c ++ body).drop 24 = body := by rw [← F.len, List.drop_left]
  rw [if_neg (by rw [hl]; omega), F.code, F.minor, hd, hl]
  rfl
theorem resp_wait (c : Nat) (hc : c ≤ 255) (body : List UInt8) (m : ByteArray) (h : (decide (m = tHead) || bareC c) = false) (hb : ¬ 4096 < body.length) : respQ (eFirst c ++ body) m false = rpNo true := by
  have F := endF c hc
  unfold respQ
  rw [rres_end c hc body m false, if_neg (by rw [h]; decide)]
  unfold rbodyQ
  rw [if_pos rfl, if_pos (by rw [List.length_append, F.len]; omega), if_neg (by decide)]
  rfl
end Go.Proofs.YthbjdbookiejeabGreatDoor

/- HttpEnds walked. -/
namespace Go.Proofs.YthbjdbookiejeabGreatDoor
open Go.RowKit
set_option linter.unusedVariables false

theorem first_size (c : Nat) (hc : c ≤ 255) : (decT (200 + c)).length = 3 := by
  have F := endF c hc
  have k := F.len
  unfold eFirst at k
  rw [List.length_append, List.length_append] at k
  have e1 : ([72, 84, 84, 80, 47, 49, 46, 49, 32] : List UInt8).length = 9 := rfl
  have e2 : ([32, 120, 13, 10, 65, 58, 32, 98, 13, 10, 13, 10] : List UInt8).length = 12 := rfl
  rw [e1, e2] at k
  omega

set_option maxRecDepth 100000 in
set_option maxHeartbeats 8000000 in
theorem ends8_walk (kb len cap : Nat) (a : Option Addr) (b : List UInt8) (code0 : Int) (w : World) (hs : Src w kb (.slice a len cap) b) (hk : 0 < b.length → kb < w.heap.size) (hn : a = none → cap = 0) (hL : Lv w) :
    Calls Tryz.prog 5 #[.slice a len cap, .int .i64 code0] w fun e w' => e = .returned (.bool true) ∧ Below w.heap.size w w' := by
  have HA : Hid (Calls Tryz.prog 13 #[] w fun e w' => e = .returned (.bool true) ∧ Below w.heap.size w w') := answering_any w hL
  have hl := hs.len
  by_cases hbig : 5000 < len
  · have hb2 : (5000 : Int) < (len : Int) := by omega
    clear hs hk hn hL hl
    go_enter Tryz.func5, Tryz.ntmps5
    go_wp2_with fail
    refine HA.out.mono ?_
    rintro e w1 ⟨rfl, B1⟩
    go_wp2
    go_ret
    exact ⟨rfl, B1⟩
  have hb2 : ¬ (5000 : Int) < (len : Int) := by omega
  obtain ⟨x, hx, hbx0⟩ := and_mask code0 255 (by decide)
  have hbx : bits BinOp.and IntKind.i64 code0 255 = (x : Int) := hbx0
  clear hbx0
  obtain ⟨hl1, hl2, hl3⟩ := hl
  subst hl1
  obtain ⟨N, hN⟩ : ∃ N : Nat, N = 200 + x := ⟨_, rfl⟩
  have hNI : (200 : Int) + (x : Int) = (N : Int) := by omega
  have HD : Hid (∀ W, Calls Tryz.prog 14 #[.int .i64 (N : Int)] W fun e w' => e = .returned (.string ⟨(decT N).toArray⟩) ∧ Below W.heap.size W w') := fun W => rdec_nat N (by omega) W
  have hd3 : (⟨(decT N).toArray⟩ : ByteArray).size = 3 := by rw [hN]; exact first_size x hx
  obtain ⟨FT, hFT⟩ : ∃ FT : ByteArray, FT = ⟨(eFirst x).toArray⟩ := ⟨_, rfl⟩
  have hFs : FT.size = 24 := by rw [hFT]; exact (endF x hx).len
  have hFd : FT.data.toList = eFirst x := by rw [hFT]
  obtain ⟨S1, hS1⟩ : ∃ S1 : ByteArray, S1 = ⟨#[72, 84, 84, 80, 47, 49, 46, 49, 32]⟩ ++ ⟨(decT N).toArray⟩ := ⟨_, rfl⟩
  have hS1s : S1.size = 12 := by rw [hS1, ByteArray.size_append, hd3]; rfl
  have hcat1 : ∀ W : World, (Op.stringOp .add ⟨#[72, 84, 84, 80, 47, 49, 46, 49, 32]⟩ ⟨(decT N).toArray⟩).run Tryz.prog W = .ok (.string S1) W := fun W => by
    rw [hS1]; exact sum_run W _ _ (by rw [hd3]; decide)
  have hcat2 : ∀ W : World, (Op.stringOp .add S1 ⟨#[32, 120, 13, 10, 65, 58, 32, 98, 13, 10, 13, 10]⟩).run Tryz.prog W = .ok (.string FT) W := fun W => by
    have e : FT = S1 ++ ⟨#[32, 120, 13, 10, 65, 58, 32, 98, 13, 10, 13, 10]⟩ := by
      rw [hFT, hS1]
      unfold eFirst
      rw [hN, show (⟨#[72, 84, 84, 80, 47, 49, 46, 49, 32]⟩ : ByteArray) = ⟨([72, 84, 84, 80, 47, 49, 46, 49, 32] : List UInt8).toArray⟩ from rfl, cat_data, cat_data]
    rw [e]; exact sum_run W _ _ (by rw [hS1s]; decide)
  have hk1 : ((24 : Int) != (FT.size : Int)) = false := by rw [hFs]; rfl
  have hk2 : ((24 : Int) == (FT.size : Int)) = true := by rw [hFs]; rfl
  have HRP : Hid (∀ (W : World) (g n c : Nat) (m : ByteArray) (e : Bool), Below w.heap.size w W → Src W g (.slice (some ⟨g, 0, none⟩) n c) (eFirst x ++ b) → g < W.heap.size → Calls Tryz.prog 15 #[.slice (some ⟨g, 0, none⟩) n c, .string m, .bool e] W (RespR W (respQ (eFirst x ++ b) m e))) := fun W g n c m e B S hg => by
    have q := S.len.1
    subst q
    exact hresp_any (eFirst x ++ b) m e g c _ W S (fun _ => hg) (hL.below B).max (by rw [List.length_append, (endF x hx).len]; omega)
  have HAP : Hid (∀ W, Below w.heap.size w W → ∃ v3 w3, (convert 9 22 (.string FT)).run Tryz.prog W = .ok v3 w3 ∧ ∃ g c w4, (Builtin.append_ #[22, 22] 22 #[v3, .slice a b.length cap]).run Tryz.prog w3 = .ok (.slice (some ⟨g, 0, none⟩) (24 + b.length) c) w4 ∧ Src w4 g (.slice (some ⟨g, 0, none⟩) (24 + b.length) c) (eFirst x ++ b) ∧ g < w4.heap.size ∧ Below w.heap.size w w4) := fun W B => by
    obtain ⟨v3, w3, r3, O3, B3⟩ := convG W FT (by rw [hFs]; decide)
    have C3 := B.trans (B3.mono B.size)
    obtain ⟨v4, w4, r4, O4, B4⟩ := ownG_append O3 (hs.keep hk C3) hn (by rw [hFd, (endF x hx).len]; omega) B3.size
    have C4 := C3.trans (B4.mono B.size)
    rw [hFd] at O4
    obtain ⟨k, S, _, hk4⟩ := O4.src
    obtain ⟨g, c, rfl, _, hl4⟩ := O4.form
    have e : (eFirst x ++ b).length = 24 + b.length := by rw [List.length_append, (endF x hx).len]
    rw [e] at r4 S
    have hg : Src w4 g (.slice (some ⟨g, 0, none⟩) (24 + b.length) c) (eFirst x ++ b) := by
      refine ⟨_, c, by rw [e], by have := S.len.2.1; omega, S.len.2.2, fun _ => ⟨0, rfl, fun j hj => ?_⟩⟩
      rw [Nat.zero_add]
      exact OwnG.cells O4 j hj
    exact ⟨v3, w3, r3, g, c, w4, r4, hg, hl4, C4⟩
  have HSB : Hid (∀ W (ba : Option Addr) (bc B : Nat), Below w.heap.size w W → Own B W (.slice ba b.length bc) b → Calls Tryz.prog 16 #[.slice ba b.length bc, .slice a b.length cap] W fun e w' => e = .returned (.bool true) ∧ Below W.heap.size W w') := fun W ba bc B hB hO => by
    obtain ⟨k, S, _⟩ := hO.src
    exact sameBytes_eq b k kb _ _ W S (hs.keep hk hB)
  have HEND := resp_end x hx b
  have HWAIT := resp_wait x hx b
  have HLONG := resp_long x hx b
  have HNONE := resp_none x hx b
  have HKP : Hid (∀ (W W' : World) (g n d : Nat), Src W g (.slice (some ⟨g, 0, none⟩) n d) (eFirst x ++ b) → g < W.heap.size → Below W.heap.size W W' → Src W' g (.slice (some ⟨g, 0, none⟩) n d) (eFirst x ++ b)) := fun W W' g n d S hg B => S.keep (fun _ => hg) B
  have hcode : (200 : Int) + (x : Int) = (N : Int) := hNI
  have ht1 : decide (tHead = tHead) = true := decide_eq_true rfl
  have ht2 : decide ((⟨#[71, 69, 84]⟩ : ByteArray) = tHead) = false := by decide
  rw [hcode] at HEND HNONE
  have hbc : bareC x = (decide ((N : Int) = 204) || decide ((N : Int) = 304)) := by unfold bareC; rw [hcode]
  have hsum : IntKind.i64.wrap ((200 : Int) + (x : Int)) = (N : Int) := by rw [hNI]; simp [IntKind.wrap, IntKind.bits, IntKind.signed]; omega
  have hN2 : N ≤ 455 := by omega
  clear hs hk hn hL hl3 hS1 hFT hFd hd3 hNI hcode hN hS1s hFs
  generalize eFs x = fs at *
  generalize eRs x = rs at *
  generalize eFirst x ++ b = X at *
  generalize (⟨(decT N).toArray⟩ : ByteArray) = DT at *
  by_cases hbare : bareC x = true
  · have G1 := HNONE ⟨#[71, 69, 84]⟩ true (by rw [hbare, Bool.or_true])
    have G2 := HNONE ⟨#[71, 69, 84]⟩ false (by rw [hbare, Bool.or_true])
    have G3 := HNONE tHead false (by rw [hbare, Bool.or_true])
    have hor : (N : Int) = 204 ∨ (¬ (N : Int) = 204 ∧ (N : Int) = 304) := by
      rw [hbc] at hbare
      simp only [Bool.or_eq_true, decide_eq_true_eq] at hbare
      omega
    clear HEND HWAIT HLONG HNONE hbare hbc ht1 ht2 HSB
    have HP1 : Hid (∀ (W : World) (g n c : Nat), Below w.heap.size w W → Src W g (.slice (some ⟨g, 0, none⟩) n c) X → g < W.heap.size → Calls Tryz.prog 15 #[.slice (some ⟨g, 0, none⟩) n c, .string ⟨#[71, 69, 84]⟩, .bool true] W (RespR W ⟨(N : Int), rs, 1, fs, [], 24, true⟩)) := fun W g n c B S hg => by
      have k := HRP.out W g n c ⟨#[71, 69, 84]⟩ true B S hg
      rw [G1] at k
      exact k
    have HP2 : Hid (∀ (W : World) (g n c : Nat), Below w.heap.size w W → Src W g (.slice (some ⟨g, 0, none⟩) n c) X → g < W.heap.size → Calls Tryz.prog 15 #[.slice (some ⟨g, 0, none⟩) n c, .string ⟨#[71, 69, 84]⟩, .bool false] W (RespR W ⟨(N : Int), rs, 1, fs, [], 24, true⟩)) := fun W g n c B S hg => by
      have k := HRP.out W g n c ⟨#[71, 69, 84]⟩ false B S hg
      rw [G2] at k
      exact k
    have HP3 : Hid (∀ (W : World) (g n c : Nat), Below w.heap.size w W → Src W g (.slice (some ⟨g, 0, none⟩) n c) X → g < W.heap.size → Calls Tryz.prog 15 #[.slice (some ⟨g, 0, none⟩) n c, .string ⟨#[72, 69, 65, 68]⟩, .bool false] W (RespR W ⟨(N : Int), rs, 1, fs, [], 24, true⟩)) := fun W g n c B S hg => by
      have k := HRP.out W g n c tHead false B S hg
      rw [G3] at k
      exact k
    unfold RespR rpV at HP1 HP2 HP3
    simp only at HP1 HP2 HP3
    clear HRP G1 G2 G3
    generalize fs.length = fl at *
    go_enter Tryz.func5, Tryz.ntmps5
    go_wp2_with fail
    refine HA.out.mono ?_
    rintro e w1 ⟨rfl, B1⟩
    go_wp2_with fail
    refine (HD.out _).mono ?_
    rintro e w2 ⟨rfl, B2⟩
    have C2 := B1.trans (B2.mono B1.size)
    obtain ⟨v3, w3, r3, g4, c4, w4, r4, S4, hl4, C4⟩ := HAP.out _ C2
    have HR4 : Hid _ := r4
    clear B1 B2 r4 HAP HA HD C2
    generalize hn4 : 24 + b.length = n4 at *
    have HN4 : Hid (24 + b.length = n4) := hn4
    clear hn4
    go_wp2_with (at_builtin; refine wpList_append_run2 rfl _ _ 22 22 rfl _ _ _ w4 rfl rfl HR4.out ?_)
    clear r3 HR4
    refine (HP1.out _ _ _ _ C4 S4 hl4).mono ?_
    rintro e w5 ⟨fa, pa, fc, qc, rfl, F5, O5, B5⟩
    have V6 : Below w4.heap.size w4 (w5.alloc (.cells #[.int .i64 (N : Int), .string rs, .int .i64 1, .slice fa fl fc, .slice pa 0 qc] 34)) := B5.alloc B5.size _
    have U6 : Below w5.heap.size w5 (w5.alloc (.cells #[.int .i64 (N : Int), .string rs, .int .i64 1, .slice fa fl fc, .slice pa 0 qc] 34)) := (Below.refl _ _).alloc (Nat.le_refl _) _
    have C6 := C4.trans (V6.mono C4.size)
    have S6 := HKP.out _ _ _ _ _ S4 hl4 V6
    have hl6 : g4 < (w5.alloc (.cells #[.int .i64 (N : Int), .string rs, .int .i64 1, .slice fa fl fc, .slice pa 0 qc] 34)).heap.size := Nat.lt_of_lt_of_le hl4 V6.size
    have hr6 := tblk_new w5 (.cells #[.int .i64 (N : Int), .string rs, .int .i64 1, .slice fa fl fc, .slice pa 0 qc] 34)
    have O6 := O5.keep U6
    clear B5 V6 U6 C4 S4 hl4 HP1 F5 O5
    go_wp2_with fail
    generalize w5.alloc (.cells #[.int .i64 (N : Int), .string rs, .int .i64 1, .slice fa fl fc, .slice pa 0 qc] 34) = w6 at *
    generalize w5.heap.size = p5 at *
    refine (HP2.out _ _ _ _ C6 S6 hl6).mono ?_
    rintro e w7 ⟨fb, pb, fd, qd, rfl, F7, O7, B7⟩
    have V8 : Below w6.heap.size w6 (w7.alloc (.cells #[.int .i64 (N : Int), .string rs, .int .i64 1, .slice fb fl fd, .slice pb 0 qd] 34)) := B7.alloc B7.size _
    have C8 := C6.trans (V8.mono C6.size)
    have S8 := HKP.out _ _ _ _ _ S6 hl6 V8
    have hl8 : g4 < (w7.alloc (.cells #[.int .i64 (N : Int), .string rs, .int .i64 1, .slice fb fl fd, .slice pb 0 qd] 34)).heap.size := Nat.lt_of_lt_of_le hl6 V8.size
    have hr8 := tblk_below hr6 V8
    have O8 := O6.keep V8
    clear B7 V8 C6 S6 hl6 HP2 F7 O7 hr6 O6
    go_wp2_with fail
    generalize w7.alloc (.cells #[.int .i64 (N : Int), .string rs, .int .i64 1, .slice fb fl fd, .slice pb 0 qd] 34) = w8 at *
    generalize w7.heap.size = p7 at *
    refine (HP3.out _ _ _ _ C8 S8 hl8).mono ?_
    rintro e w9 ⟨fe, pe, ff, qe, rfl, F9, O9, B9⟩
    have V10 : Below w8.heap.size w8 (w9.alloc (.cells #[.int .i64 (N : Int), .string rs, .int .i64 1, .slice fe fl ff, .slice pe 0 qe] 34)) := B9.alloc B9.size _
    have C10 := C8.trans (V10.mono C8.size)
    have hr10 := tblk_below hr8 V10
    have hq10 := tblk_new w9 (.cells #[.int .i64 (N : Int), .string rs, .int .i64 1, .slice fe fl ff, .slice pe 0 qe] 34)
    have OWN10 := O8.keep V10
    have a0 := tblk_cell (i := 4) hr10 rfl
    have e0 := tblk_cell (i := 0) hq10 rfl
    have e4 := tblk_cell (i := 4) hq10 rfl
    clear B9 V10 C8 S8 hl8 HP3 F9 O9 hr8 O8 hr10 hq10
    rcases hor with h4 | ⟨h4, h5⟩
    · have h4b : ((N : Int) == 204) = true := by simpa using h4
      clear h4
      go_wp2
      go_ret
      exact ⟨rfl, C10⟩
    · have h4b : ((N : Int) == 204) = false := by simpa using h4
      have h5b : ((N : Int) == 304) = true := by simpa using h5
      clear h4 h5
      go_wp2
      go_ret
      exact ⟨rfl, C10⟩
  have hb0 : bareC x = false := by simpa using hbare
  have h204 : ¬ (N : Int) = 204 := by
    intro h
    rw [hbc, decide_eq_true h] at hb0
    simp at hb0
  have h304 : ¬ (N : Int) = 304 := by
    intro h
    rw [hbc, decide_eq_true h] at hb0
    simp at hb0
  have h204b : ((N : Int) == 204) = false := by simpa using h204
  have h304b : ((N : Int) == 304) = false := by simpa using h304
  clear h204 h304
  have G3 := HNONE tHead false (by rw [ht1, Bool.true_or])
  have hg0 : (decide ((⟨#[71, 69, 84]⟩ : ByteArray) = tHead) || bareC x) = false := by rw [ht2, hb0]; rfl
  by_cases hlong : 4096 < b.length
  · have G1 := HLONG ⟨#[71, 69, 84]⟩ true hg0 hlong
    have G2 := HLONG ⟨#[71, 69, 84]⟩ false hg0 hlong
    have hlI : (4096 : Int) < (b.length : Int) := by omega
    clear HEND HWAIT HLONG HNONE hbare hbc ht1 ht2 HSB hb0 hg0
    have HP1 : Hid (∀ (W : World) (g n c : Nat), Below w.heap.size w W → Src W g (.slice (some ⟨g, 0, none⟩) n c) X → g < W.heap.size → Calls Tryz.prog 15 #[.slice (some ⟨g, 0, none⟩) n c, .string ⟨#[71, 69, 84]⟩, .bool true] W (RespR W (rpNo false))) := fun W g n c B S hg => by
      have k := HRP.out W g n c ⟨#[71, 69, 84]⟩ true B S hg
      rw [G1] at k
      exact k
    have HP2 : Hid (∀ (W : World) (g n c : Nat), Below w.heap.size w W → Src W g (.slice (some ⟨g, 0, none⟩) n c) X → g < W.heap.size → Calls Tryz.prog 15 #[.slice (some ⟨g, 0, none⟩) n c, .string ⟨#[71, 69, 84]⟩, .bool false] W (RespR W (rpNo false))) := fun W g n c B S hg => by
      have k := HRP.out W g n c ⟨#[71, 69, 84]⟩ false B S hg
      rw [G2] at k
      exact k
    have HP3 : Hid (∀ (W : World) (g n c : Nat), Below w.heap.size w W → Src W g (.slice (some ⟨g, 0, none⟩) n c) X → g < W.heap.size → Calls Tryz.prog 15 #[.slice (some ⟨g, 0, none⟩) n c, .string ⟨#[72, 69, 65, 68]⟩, .bool false] W (RespR W ⟨(N : Int), rs, 1, fs, [], 24, true⟩)) := fun W g n c B S hg => by
      have k := HRP.out W g n c tHead false B S hg
      rw [G3] at k
      exact k
    unfold RespR rpV at HP1 HP2 HP3
    unfold rpNo at HP1 HP2
    simp only at HP1 HP2 HP3
    clear HRP G1 G2 G3
    generalize fs.length = fl at *
    go_enter Tryz.func5, Tryz.ntmps5
    go_wp2_with fail
    refine HA.out.mono ?_
    rintro e w1 ⟨rfl, B1⟩
    go_wp2_with fail
    refine (HD.out _).mono ?_
    rintro e w2 ⟨rfl, B2⟩
    have C2 := B1.trans (B2.mono B1.size)
    obtain ⟨v3, w3, r3, g4, c4, w4, r4, S4, hl4, C4⟩ := HAP.out _ C2
    have HR4 : Hid _ := r4
    clear B1 B2 r4 HAP HA HD C2
    generalize hn4 : 24 + b.length = n4 at *
    have HN4 : Hid (24 + b.length = n4) := hn4
    clear hn4
    go_wp2_with (at_builtin; refine wpList_append_run2 rfl _ _ 22 22 rfl _ _ _ w4 rfl rfl HR4.out ?_)
    clear r3 HR4
    refine (HP1.out _ _ _ _ C4 S4 hl4).mono ?_
    rintro e w5 ⟨fa, pa, fc, qc, rfl, F5, O5, B5⟩
    have V6 : Below w4.heap.size w4 (w5.alloc (.cells #[.int .i64 0, .string ⟨#[]⟩, .int .i64 0, .slice fa 0 fc, .slice pa 0 qc] 34)) := B5.alloc B5.size _
    have U6 : Below w5.heap.size w5 (w5.alloc (.cells #[.int .i64 0, .string ⟨#[]⟩, .int .i64 0, .slice fa 0 fc, .slice pa 0 qc] 34)) := (Below.refl _ _).alloc (Nat.le_refl _) _
    have C6 := C4.trans (V6.mono C4.size)
    have S6 := HKP.out _ _ _ _ _ S4 hl4 V6
    have hl6 : g4 < (w5.alloc (.cells #[.int .i64 0, .string ⟨#[]⟩, .int .i64 0, .slice fa 0 fc, .slice pa 0 qc] 34)).heap.size := Nat.lt_of_lt_of_le hl4 V6.size
    have hr6 := tblk_new w5 (.cells #[.int .i64 0, .string ⟨#[]⟩, .int .i64 0, .slice fa 0 fc, .slice pa 0 qc] 34)
    have O6 := O5.keep U6
    clear B5 V6 U6 C4 S4 hl4 HP1 F5 O5
    go_wp2_with fail
    generalize w5.alloc (.cells #[.int .i64 0, .string ⟨#[]⟩, .int .i64 0, .slice fa 0 fc, .slice pa 0 qc] 34) = w6 at *
    generalize w5.heap.size = p5 at *
    refine (HP2.out _ _ _ _ C6 S6 hl6).mono ?_
    rintro e w7 ⟨fb, pb, fd, qd, rfl, F7, O7, B7⟩
    have V8 : Below w6.heap.size w6 (w7.alloc (.cells #[.int .i64 0, .string ⟨#[]⟩, .int .i64 0, .slice fb 0 fd, .slice pb 0 qd] 34)) := B7.alloc B7.size _
    have C8 := C6.trans (V8.mono C6.size)
    have S8 := HKP.out _ _ _ _ _ S6 hl6 V8
    have hl8 : g4 < (w7.alloc (.cells #[.int .i64 0, .string ⟨#[]⟩, .int .i64 0, .slice fb 0 fd, .slice pb 0 qd] 34)).heap.size := Nat.lt_of_lt_of_le hl6 V8.size
    have hr8 := tblk_below hr6 V8
    have O8 := O6.keep V8
    clear B7 V8 C6 S6 hl6 HP2 F7 O7 hr6 O6
    go_wp2_with fail
    generalize w7.alloc (.cells #[.int .i64 0, .string ⟨#[]⟩, .int .i64 0, .slice fb 0 fd, .slice pb 0 qd] 34) = w8 at *
    generalize w7.heap.size = p7 at *
    refine (HP3.out _ _ _ _ C8 S8 hl8).mono ?_
    rintro e w9 ⟨fe, pe, ff, qe, rfl, F9, O9, B9⟩
    have V10 : Below w8.heap.size w8 (w9.alloc (.cells #[.int .i64 (N : Int), .string rs, .int .i64 1, .slice fe fl ff, .slice pe 0 qe] 34)) := B9.alloc B9.size _
    have C10 := C8.trans (V10.mono C8.size)
    have hr10 := tblk_below hr8 V10
    have hq10 := tblk_new w9 (.cells #[.int .i64 (N : Int), .string rs, .int .i64 1, .slice fe fl ff, .slice pe 0 qe] 34)
    have OWN10 := O8.keep V10
    have a0 := tblk_cell (i := 4) hr10 rfl
    have e0 := tblk_cell (i := 0) hq10 rfl
    have e4 := tblk_cell (i := 4) hq10 rfl
    clear B9 V10 C8 S8 hl8 HP3 F9 O9 hr8 O8 hr10 hq10
    go_wp2
    go_ret
    exact ⟨rfl, C10⟩
  · have G1 := HEND ⟨#[71, 69, 84]⟩ hg0 hlong
    have G2 := HWAIT ⟨#[71, 69, 84]⟩ hg0 hlong
    have hlI : ¬ (4096 : Int) < (b.length : Int) := by omega
    clear HEND HWAIT HLONG HNONE hbare hbc ht1 ht2 hb0 hg0
    have HP1 : Hid (∀ (W : World) (g n c : Nat), Below w.heap.size w W → Src W g (.slice (some ⟨g, 0, none⟩) n c) X → g < W.heap.size → Calls Tryz.prog 15 #[.slice (some ⟨g, 0, none⟩) n c, .string ⟨#[71, 69, 84]⟩, .bool true] W (RespR W ⟨(N : Int), rs, 1, fs, b, 24 + b.length, true⟩)) := fun W g n c B S hg => by
      have k := HRP.out W g n c ⟨#[71, 69, 84]⟩ true B S hg
      rw [G1] at k
      exact k
    have HP2 : Hid (∀ (W : World) (g n c : Nat), Below w.heap.size w W → Src W g (.slice (some ⟨g, 0, none⟩) n c) X → g < W.heap.size → Calls Tryz.prog 15 #[.slice (some ⟨g, 0, none⟩) n c, .string ⟨#[71, 69, 84]⟩, .bool false] W (RespR W (rpNo true))) := fun W g n c B S hg => by
      have k := HRP.out W g n c ⟨#[71, 69, 84]⟩ false B S hg
      rw [G2] at k
      exact k
    have HP3 : Hid (∀ (W : World) (g n c : Nat), Below w.heap.size w W → Src W g (.slice (some ⟨g, 0, none⟩) n c) X → g < W.heap.size → Calls Tryz.prog 15 #[.slice (some ⟨g, 0, none⟩) n c, .string ⟨#[72, 69, 65, 68]⟩, .bool false] W (RespR W ⟨(N : Int), rs, 1, fs, [], 24, true⟩)) := fun W g n c B S hg => by
      have k := HRP.out W g n c tHead false B S hg
      rw [G3] at k
      exact k
    unfold RespR rpV at HP1 HP2 HP3
    unfold rpNo at HP2
    simp only at HP1 HP2 HP3
    clear HRP G1 G2 G3
    generalize fs.length = fl at *
    go_enter Tryz.func5, Tryz.ntmps5
    go_wp2_with fail
    refine HA.out.mono ?_
    rintro e w1 ⟨rfl, B1⟩
    go_wp2_with fail
    refine (HD.out _).mono ?_
    rintro e w2 ⟨rfl, B2⟩
    have C2 := B1.trans (B2.mono B1.size)
    obtain ⟨v3, w3, r3, g4, c4, w4, r4, S4, hl4, C4⟩ := HAP.out _ C2
    have HR4 : Hid _ := r4
    clear B1 B2 r4 HAP HA HD C2
    generalize hn4 : 24 + b.length = n4 at *
    have HN4 : Hid (24 + b.length = n4) := hn4
    clear hn4
    go_wp2_with (at_builtin; refine wpList_append_run2 rfl _ _ 22 22 rfl _ _ _ w4 rfl rfl HR4.out ?_)
    clear r3 HR4
    refine (HP1.out _ _ _ _ C4 S4 hl4).mono ?_
    rintro e w5 ⟨fa, pa, fc, qc, rfl, F5, O5, B5⟩
    have V6 : Below w4.heap.size w4 (w5.alloc (.cells #[.int .i64 (N : Int), .string rs, .int .i64 1, .slice fa fl fc, .slice pa b.length qc] 34)) := B5.alloc B5.size _
    have U6 : Below w5.heap.size w5 (w5.alloc (.cells #[.int .i64 (N : Int), .string rs, .int .i64 1, .slice fa fl fc, .slice pa b.length qc] 34)) := (Below.refl _ _).alloc (Nat.le_refl _) _
    have C6 := C4.trans (V6.mono C4.size)
    have S6 := HKP.out _ _ _ _ _ S4 hl4 V6
    have hl6 : g4 < (w5.alloc (.cells #[.int .i64 (N : Int), .string rs, .int .i64 1, .slice fa fl fc, .slice pa b.length qc] 34)).heap.size := Nat.lt_of_lt_of_le hl4 V6.size
    have hr6 := tblk_new w5 (.cells #[.int .i64 (N : Int), .string rs, .int .i64 1, .slice fa fl fc, .slice pa b.length qc] 34)
    have O6 := O5.keep U6
    clear B5 V6 U6 C4 S4 hl4 HP1 F5 O5
    go_wp2_with fail
    generalize w5.alloc (.cells #[.int .i64 (N : Int), .string rs, .int .i64 1, .slice fa fl fc, .slice pa b.length qc] 34) = w6 at *
    generalize w5.heap.size = p5 at *
    refine (HP2.out _ _ _ _ C6 S6 hl6).mono ?_
    rintro e w7 ⟨fb, pb, fd, qd, rfl, F7, O7, B7⟩
    have V8 : Below w6.heap.size w6 (w7.alloc (.cells #[.int .i64 0, .string ⟨#[]⟩, .int .i64 0, .slice fb 0 fd, .slice pb 0 qd] 34)) := B7.alloc B7.size _
    have C8 := C6.trans (V8.mono C6.size)
    have S8 := HKP.out _ _ _ _ _ S6 hl6 V8
    have hl8 : g4 < (w7.alloc (.cells #[.int .i64 0, .string ⟨#[]⟩, .int .i64 0, .slice fb 0 fd, .slice pb 0 qd] 34)).heap.size := Nat.lt_of_lt_of_le hl6 V8.size
    have hr8 := tblk_below hr6 V8
    have O8 := O6.keep V8
    clear B7 V8 C6 S6 hl6 HP2 F7 O7 hr6 O6
    go_wp2_with fail
    generalize w7.alloc (.cells #[.int .i64 0, .string ⟨#[]⟩, .int .i64 0, .slice fb 0 fd, .slice pb 0 qd] 34) = w8 at *
    generalize w7.heap.size = p7 at *
    refine (HP3.out _ _ _ _ C8 S8 hl8).mono ?_
    rintro e w9 ⟨fe, pe, ff, qe, rfl, F9, O9, B9⟩
    have V10 : Below w8.heap.size w8 (w9.alloc (.cells #[.int .i64 (N : Int), .string rs, .int .i64 1, .slice fe fl ff, .slice pe 0 qe] 34)) := B9.alloc B9.size _
    have C10 := C8.trans (V10.mono C8.size)
    have hr10 := tblk_below hr8 V10
    have hq10 := tblk_new w9 (.cells #[.int .i64 (N : Int), .string rs, .int .i64 1, .slice fe fl ff, .slice pe 0 qe] 34)
    have OWN10 := O8.keep V10
    have a0 := tblk_cell (i := 4) hr10 rfl
    have e0 := tblk_cell (i := 0) hq10 rfl
    have e4 := tblk_cell (i := 4) hq10 rfl
    clear B9 V10 C8 S8 hl8 HP3 F9 O9 hr8 O8 hr10 hq10
    go_wp2_with fail
    clear a0 e0 e4
    refine (HSB.out _ pa qc _ C10 OWN10).mono ?_
    rintro e w11 ⟨rfl, B11⟩
    have C11 := C10.trans (B11.mono C10.size)
    go_wp2
    go_ret
    exact ⟨rfl, C11⟩
end Go.Proofs.YthbjdbookiejeabGreatDoor

/- Whatever the body and the code, HttpEnds answers true: a response without lengths goes to the end, up to as many bytes as may be, and one without a body is whole at once; no condition. -/
namespace Go.Proofs.YthbjdbookiejeabGreatDoor.httpEnds
open Go.ChangeShapes Go.WideShapes Go.ChangeAt Go.RowKit
open Go.ChangeMaps (open_string shut_string)
set_option linter.unusedVariables false

theorem own : ownKnob Tryz.prog.godebug = none := by kernel_rfl
theorem laidOut : laidOutB Tryz.prog = true := by kernel_rfl
theorem maxL_of {W : World} (hsh : W.ShapedOpen Tryz.prog) : MaxL W :=
  cell_of_shapedOpen_int (P := Tryz.prog) (g := 0) (t := 3) (zero := #[.int .i64 0]) hsh (of_decide_eq_true (by kernel_rfl)) (by kernel_rfl) rfl (by kernel_rfl) (by kernel_rfl) Tryz.underlying3
noncomputable def laidWorld (os : Os) : World := World.laidAll Tryz.prog os Rows.httpEndsRow.laid
theorem laid_met (os : Os) : laidMetH Tryz.prog Rows.httpEndsRow.laid ((laidWorld os).forCall (fun _ _ => 0) ⟨#[], #[.slice none 0 0, .int .i64 0], []⟩).memory := by
  rw [MakeChecks.laidMetH_plain _ _ _ (by kernel_rfl)]
  exact laidMet_laidAll _ (by kernel_rfl) (by kernel_rfl)
set_option maxRecDepth 100000 in
theorem lifted (os : Os) (started : os.Started) (H : Type) (enc : TypeId × Value → H) (F : Stop.Interp) :
    ReturnsInHanded {} Tryz.checked os 5 .any ((OpenSpec.ofChange Rows.httpEndsSpec).preRow enc Tryz.prog Tryz.f5 Rows.httpEndsRow.domain false Rows.httpEndsRow.laid) (((OpenSpec.ofChange Rows.httpEndsSpec).at F).post enc Tryz.prog Tryz.f5 false true false false) := by
  obtain ⟨places, hx⟩ := (⟨[], by kernel_rfl⟩ : ∃ places, DataW.whole enc Tryz.prog ((laidWorld os).forCall (fun _ _ => 0) ⟨#[], #[.slice none 0 0, .int .i64 0], []⟩).memory Tryz.f5.params.toList Rows.httpEndsSpec.vars false (#[.slice none 0 0, .int .i64 0] : Array Value).toList 8 = some ([.nil, .lit (.int .i64 0)], [], places))
  refine returnsInHanded_of_row (C := Tryz.checked) (s := OpenSpec.ofChange Rows.httpEndsSpec) own started (by kernel_rfl) Tryz.func5
    (witness_row_atRef (enc := enc) (C := Tryz.checked) false (laidWorld os) #[.slice none 0 0, .int .i64 0] rfl (by kernel_rfl) (by kernel_rfl) (by kernel_rfl)
      (OpenSpec.preRow_of_cond 8 hx (by kernel_rfl) (fun k hk => by cases hk) (by kernel_rfl) (laid_met os))) ?_
  intro W base args ds gs before hval0 hW _ hcond hsz hlaid hsh _
  have hM := maxL_of hsh
  clear hsh
  have hval : ∀ (j : Nat) t v, Tryz.f5.params[j]? = some t → args[j]? = some v → Value.okWide Tryz.prog W .any base t v := hval0
  have hW' := hW
  obtain ⟨p, q, hA0, hV, rfl, hfz, hnd⟩ := hW
  have hA : DataW.TrodAll enc Tryz.prog W 0 (fun _ => true) true Tryz.f5.params.toList args.toList ds p := hA0
  rw [Tryz.params5] at hA hval
  obtain ⟨v0, vs0, d0, ds0, p0, q0, hargs, rfl, rfl, h0, r0⟩ := trodAll_cons hA
  obtain ⟨v1, vs1, d1, ds1, p1, q1, rfl, rfl, rfl, h1, r1⟩ := trodAll_cons r0
  obtain ⟨rfl, rfl, rfl⟩ := trodAll_nil r1
  obtain rfl : args = #[v0, v1] := by cases args; simp_all
  obtain ⟨rfl, rfl⟩ := trodVars_none hV
  obtain ⟨a0, len0, cap0, rfl⟩ := okWide_slice Tryz.underlying22 (hval 0 22 v0 rfl rfl)
  have k0 := h0
  have lt0 : ∀ x ∈ p0, x.block < W.heap.size := by obtain ⟨m, hm⟩ := k0; exact DataW.trod_lt m _ _ _ hm
  obtain ⟨kb0, b0, w0, hk0, hn0⟩ := open_bytes h0
  obtain ⟨a1, rfl, rfl, rfl, w1⟩ := open_int Tryz.underlying3 (hval 1 3 v1 rfl rfl) h1
  clear hA0 hval0
  have hP := pow_of (l := Rows.httpEndsRow.laid) (by kernel_rfl) hlaid
  refine (ends8_walk kb0 len0 cap0 a0 b0 a1 W w0 hk0 hn0 ⟨hM, hP⟩).mono fun e W' ⟨he, bel⟩ => ?_
  subst he
  exact ⟨_, rfl, _, _, _, [], _, [], hW', trodAll_mk1 (shut_bool Tryz.underlying4 _), (trodAll_cons_mk (Below.trod laidOut (by kernel_rfl) (of_decide_eq_true (by kernel_rfl)) k0 bel lt0) (trodAll_cons_mk (shut_int Tryz.underlying3 w1) trodAll_mk0)), rfl, bel.frame _, fun h => by cases h⟩

theorem over : Rows.HttpEndsSaid :=
  OpenClaim.holds_of_cond 5 Tryz.f5 rfl rfl rfl rfl rfl rfl rfl ⟨rfl, rfl, rfl, rfl, rfl⟩ rfl rfl rfl rfl rfl (by kernel_rfl) Tryz.func5 (by kernel_rfl)
    (of_decide_eq_true (by kernel_rfl)) (by unfold Func.isWrapper; first | (rw [if_pos (by decide +kernel)]; kernel_rfl) | (rw [if_neg (by decide +kernel)]; exact ⟨rfl, rfl⟩))
    (fun os started H enc _ F => by rw [OpenClaim.pre_eq_preRow]; exact lifted os started H enc F)

end Go.Proofs.YthbjdbookiejeabGreatDoor.httpEnds
namespace Go.Proofs.YthbjdbookiejeabGreatDoor
/-- The statement: the tied card. -/
theorem httpEnds_holds : Rows.HttpEndsCardSaid :=
  Claim7.holds_tied_plain_at .later [] _ _ _ _
    httpEnds.over (fun _ h => by cases h) (by kernel_rfl) (fun _ h => by cases h) httpEnds_row_tie rfl ⟨rfl, rfl⟩ (by kernel_rfl) rfl
    (fun f fn hf hfn => by
      obtain rfl : f = 5 := Option.some.inj ((show Tryz.prog.funcNamed "tollbar/tollbarlaw08.HttpEnds" = some 5 by kernel_rfl).symm.trans hf) |>.symm
      obtain rfl : fn = Tryz.f5 := (Option.some.inj (Tryz.func5.symm.trans hfn)).symm
      exact ⟨by kernel_rfl, fun j t ht => by
        rw [Tryz.params5] at ht
        have hm : t ∈ [22, 3] := by simpa using Array.mem_of_getElem? ht
        have hall : ([22, 3].all fun u => !Tryz.prog.wantsStandIn u) = true := by kernel_rfl
        exact (show Tryz.prog.wantsStandIn t = false by simpa using List.all_eq_true.1 hall t hm)⟩)
    (by kernel_rfl)
#print axioms httpEnds_holds
end Go.Proofs.YthbjdbookiejeabGreatDoor
