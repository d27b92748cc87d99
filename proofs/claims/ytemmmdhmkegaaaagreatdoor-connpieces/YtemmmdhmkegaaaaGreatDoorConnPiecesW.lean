/- Whatever the bytes and the cuts, ConnPieces answers true: however bytes come in pieces, the requests are the same, in their order, and so is the status behind them; no condition. -/
import Derived.Test.YtemmmdhmkegaaaaGreatDoorCb5
import Derived.Test.YtemmmdhmkegaaaaGreatDoorCb2
import Derived.Test.YtemmmdhmkegaaaaGreatDoorRows
import Derived.WalkKit
import Derived.Below
import Derived.Maps.AppendAt
import Derived.Lib.SliceRun
import Derived.ProofKit
import Derived.OpenShut
import Derived.Deep.Slices
import Derived.Test.YtemmmdhmkegaaaaGreatDoorCb3
import Derived.Deep.QuietTactic
import Derived.Test.YtemmmdhmkegaaaaGreatDoorCb4
import Derived.Test.YtemmmdhmkegaaaaGreatDoorCards
import Derived.Test.YtemmmdhmkegaaaaGreatDoorTie
import Derived.ShutString
import Derived.ChangeOld
import Derived.LaidMore
import Derived.Lay
import Derived.Stop.Joined
import Derived.SevenTiedAt
import Derived.Shelf.Vars
import Derived.Deep.DeepHandedRow
import Derived.Deep.DeepWitnessRowRef
/- ConnCloses: the walk. -/
namespace Go.Proofs.YtemmmdhmkegaaaaGreatDoor
open Go.RowKit
set_option linter.unusedVariables false

theorem MaxL.pos {w : World} (h : MaxL w) : 0 < w.heap.size := by
  obtain ⟨m, h⟩ := h
  rcases Nat.eq_zero_or_pos w.heap.size with e | e
  · have : w.heap = #[] := Array.eq_empty_of_size_eq_zero e
    simp [World.cell?, this] at h
  · exact e
/-- Bytes that came in lie below. -/
theorem Src.low {w : World} {k : Nat} {v : Value} {x : List UInt8} (h : Src w k v x) (hk : 0 < x.length → k < w.heap.size) (hM : MaxL w) : ∃ k', k' < w.heap.size ∧ Src w k' v x := by
  obtain ⟨k', c, s⟩ := h.any (g := 0) hk
  refine ⟨k', ?_, s⟩
  rcases c with c | c
  · exact c
  · rw [c]; exact hM.pos
def b58 : List UInt8 := [71, 69, 84, 32, 47, 32, 72, 84, 84, 80, 47, 49, 46, 49, 13, 10, 72, 111, 115, 116, 58, 32, 97, 13, 10, 13, 10, 71, 69, 84, 32, 47, 110, 101, 120, 116, 32, 72, 84, 84, 80, 47, 49, 46, 49, 13, 10, 72, 111, 115, 116, 58, 32, 97, 13, 10, 13, 10]
def b31 : List UInt8 := [71, 69, 84, 32, 47, 110, 101, 120, 116, 32, 72, 84, 84, 80, 47, 49, 46, 49, 13, 10, 72, 111, 115, 116, 58, 32, 97, 13, 10, 13, 10]
def r31 : Rd := ⟨⟨#[71, 69, 84]⟩, ⟨#[47, 110, 101, 120, 116]⟩, 1, [(⟨#[72, 111, 115, 116]⟩, ⟨#[97]⟩)], [], 31, 0⟩
theorem req58 : reqQ b58 = r29 := by kernel_rfl
theorem req31 : reqQ b31 = r31 := by kernel_rfl
theorem cl_feed : feedS newS (tot [[], []]) 1048576 b58 = (⟨b58, [], 0, false, false, false⟩, true) := by kernel_rfl
theorem cl_next1 : nextS ⟨b58, [], 0, false, false, false⟩ = (⟨b31, [], 0, true, false, false⟩, r29, 0) := by unfold nextS; rw [show reqQ b58 = r29 from req58]; kernel_rfl
theorem cl_next2 (f : List UInt8) : nextS ⟨b31, f, 0, false, false, false⟩ = (⟨[], f, 0, true, false, false⟩, r31, 0) := by
  unfold nextS
  simp only [Bool.false_eq_true, if_false]
  rw [show reqQ b31 = r31 from req31]
  rfl
theorem tot2 (a c : List UInt8) : tot [a, c] = a.length + c.length := by simp [tot]
theorem cl_say1 (f : List UInt8) (h : f.length ≤ 1000) : sayS ⟨b31, [], 0, true, false, false⟩ (tot [b31, []]) 1048576 f false = (⟨b31, f, 0, false, false, false⟩, true) := by
  unfold sayS noteS say2
  rw [tot2]
  simp only [Bool.false_eq_true, if_false, List.length_nil, List.nil_append]
  rw [if_pos (by have : b31.length = 31 := rfl; omega)]
theorem cl_feed2 (f mo : List UInt8) (h : f.length ≤ 1000) (k : mo.length ≤ 1000) : feedS ⟨[], f, 0, true, false, false⟩ (tot [[], f]) 1048576 mo = (⟨mo, f, 0, true, false, false⟩, true) := by
  unfold feedS
  rw [tot2, if_neg (by simp), if_pos (by simp; omega)]
  rfl
theorem cl_say2 (f l mo : List UInt8) (h : f.length ≤ 1000) (k : l.length ≤ 1000) : sayS ⟨mo, f, 0, true, false, false⟩ (tot [mo, f]) 1048576 l true = (⟨[], f ++ l, 0, false, false, true⟩, true) := by
  unfold sayS noteS say2 shutS
  rw [tot2]
  simp only [Bool.false_eq_true, if_false, if_true, List.length_nil]
  rw [if_pos (by omega)]
theorem cl_feed3 (x mo : List UInt8) : feedS ⟨[], x, 0, false, false, true⟩ (tot [[], x]) 1048576 mo = (⟨[], x, 0, false, false, true⟩, true) := rfl
theorem cl_wait (x : List UInt8) : waitS ⟨[], x, 0, false, false, true⟩ = (⟨[], x, 0, false, false, true⟩, false) := rfl
theorem cl_next3 (x : List UInt8) : nextS ⟨[], x, 0, false, false, true⟩ = (⟨[], x, 0, false, false, true⟩, rdNo 0, -1) := rfl
theorem cl_win (x : List UInt8) (h : x.length ≤ 2000) : windowS ⟨[], x, 0, false, false, true⟩ x.length = ⟨[], x, x.length, false, false, true⟩ := by
  unfold windowS
  simp only [Cs.mk.injEq, true_and, and_true]
  omega
theorem cl_n (x : List UInt8) (h : x.length ≤ 2000) : writeN ⟨[], x, x.length, false, false, true⟩ 1073741824 = x.length := by
  unfold writeN wantS
  simp only
  omega
theorem cl_write (x : List UInt8) (h : x.length ≤ 2000) : writeS ⟨[], x, x.length, false, false, true⟩ 1073741824 = ⟨[], [], 0, false, false, true⟩ := by
  unfold writeS
  rw [cl_n x h]
  simp only [List.drop_length, Int.sub_self]
set_option maxRecDepth 100000 in
set_option maxHeartbeats 4000000 in
theorem closes18_walk (k0 n0 c0 : Nat) (a0 : Option Addr) (f : List UInt8) (k1 n1 c1 : Nat) (a1 : Option Addr) (l : List UInt8) (k2 n2 c2 : Nat) (a2 : Option Addr) (mo : List UInt8) (w : World)
    (h0 : Src w k0 (.slice a0 n0 c0) f) (q0 : 0 < f.length → k0 < w.heap.size) (z0 : a0 = none → c0 = 0) (h1 : Src w k1 (.slice a1 n1 c1) l) (q1 : 0 < l.length → k1 < w.heap.size) (z1 : a1 = none → c1 = 0)
    (h2 : Src w k2 (.slice a2 n2 c2) mo) (q2 : 0 < mo.length → k2 < w.heap.size) (hM : MaxL w) :
    Calls Tryz.prog 7 #[.slice a0 n0 c0, .slice a1 n1 c1, .slice a2 n2 c2] w fun e w' => e = .returned (.bool true) ∧ Below w.heap.size w w' := by
  obtain ⟨k0', p0, s0⟩ := h0.low q0 hM
  obtain ⟨k1', p1, s1⟩ := h1.low q1 hM
  obtain ⟨k2', p2, s2⟩ := h2.low q2 hM
  obtain ⟨e0, _, _⟩ := h0.len
  obtain ⟨e1, _, _⟩ := h1.len
  obtain ⟨e2, _, _⟩ := h2.len
  subst e0 e1 e2
  have S0 : Hid (Src w k0' (.slice a0 f.length c0) f) := s0
  have S1 : Hid (Src w k1' (.slice a1 l.length c1) l) := s1
  have S2 : Hid (Src w k2' (.slice a2 mo.length c2) mo) := s2
  have HM : Hid (MaxL w) := hM
  have HA := alive18_any w hM
  clear hM h0 h1 h2 q0 q1 q2 s0 s1 s2
  by_cases g0 : 1000 < f.length
  · clear S0 S1 S2
    generalize f.length = n at *
    go_enter Tryz.func7, Tryz.ntmps7
    go_wp2_with fail
    refine HA.mono ?_
    rintro e w1 ⟨rfl, B1⟩
    go_wp2
    go_ret
    exact ⟨rfl, B1⟩
  by_cases g1 : 1000 < l.length
  · clear S0 S1 S2
    generalize f.length = n at *
    generalize l.length = n1 at *
    go_enter Tryz.func7, Tryz.ntmps7
    go_wp2_with fail
    refine HA.mono ?_
    rintro e w1 ⟨rfl, B1⟩
    go_wp2
    go_ret
    exact ⟨rfl, B1⟩
  by_cases g2 : 1000 < mo.length
  · clear S0 S1 S2
    generalize f.length = n at *
    generalize l.length = n1 at *
    generalize mo.length = n2 at *
    go_enter Tryz.func7, Tryz.ntmps7
    go_wp2_with fail
    refine HA.mono ?_
    rintro e w1 ⟨rfl, B1⟩
    go_wp2
    go_ret
    exact ⟨rfl, B1⟩
  have hf : f.length ≤ 1000 := by omega
  have hl : l.length ≤ 1000 := by omega
  have hm : mo.length ≤ 1000 := by omega
  go_enter Tryz.func7, Tryz.ntmps7
  go_wp2_with fail
  refine HA.mono ?_
  rintro e w1 ⟨rfl, B1⟩
  clear HA
  have HMB : Hid (∀ W, Below w1.heap.size w1 W → MaxL W) := fun W b => (HM.out.below B1).below b
  have S0 : Hid (∀ W, Below w1.heap.size w1 W → Src W k0' (.slice a0 f.length c0) f ∧ k0' < w1.heap.size) := fun W b => ⟨(S0.out.below p0 B1).below (Nat.lt_of_lt_of_le p0 B1.size) b, Nat.lt_of_lt_of_le p0 B1.size⟩
  have S1 : Hid (∀ W, Below w1.heap.size w1 W → Src W k1' (.slice a1 l.length c1) l ∧ k1' < w1.heap.size) := fun W b => ⟨(S1.out.below p1 B1).below (Nat.lt_of_lt_of_le p1 B1.size) b, Nat.lt_of_lt_of_le p1 B1.size⟩
  have S2 : Hid (∀ W, Below w1.heap.size w1 W → Src W k2' (.slice a2 mo.length c2) mo ∧ k2' < w1.heap.size) := fun W b => ⟨(S2.out.below p2 B1).below (Nat.lt_of_lt_of_le p2 B1.size) b, Nat.lt_of_lt_of_le p2 B1.size⟩
  have HB1 : Hid (Below w.heap.size w w1) := B1
  clear B1 HM
  obtain ⟨fn, hfn⟩ : ∃ n, n = f.length := ⟨_, rfl⟩
  obtain ⟨ln, hln⟩ : ∃ n, n = l.length := ⟨_, rfl⟩
  obtain ⟨mn, hmn⟩ : ∃ n, n = mo.length := ⟨_, rfl⟩
  rw [← hfn] at S0 ⊢
  rw [← hln] at S1 ⊢
  rw [← hmn] at S2 ⊢
  have y0 : ¬ (1000 : Int) < fn := by omega
  have y1 : ¬ (1000 : Int) < ln := by omega
  have y2 : ¬ (1000 : Int) < mn := by omega
  have HF : Hid (fn = f.length ∧ f.length ≤ 1000) := ⟨hfn, hf⟩
  have HL : Hid (ln = l.length ∧ l.length ≤ 1000) := ⟨hln, hl⟩
  have HN : Hid (mn = mo.length ∧ mo.length ≤ 1000) := ⟨hmn, hm⟩
  clear g0 g1 g2 hf hl hm hfn hln hmn
  go_wp2_with fail
  refine (new_any 1048576 _).mono ?_
  rintro e w2 ⟨rfl, hw2⟩
  have M0 : Many (fun k => k < w1.heap.size) w1 w2 w1.heap.size [] [] 1048576 0 := by rw [hw2]; exact isM_start 1048576 (by decide) (by decide)
  clear hw2 y0 y1 y2
  go_wp2_with fail
  refine (conew_any M0).mono ?_
  rintro e w3 ⟨b, rs, rfl, hb, C0, hrl, B0⟩
  have hb1 : w1.heap.size < b := by have := M0.isM.lt; omega
  have C3 : Cn (fun k => k < w1.heap.size ∨ k = b) w1 w3 w1.heap.size rs [[], []] 1048576 b 0 newS := C0
  clear C0 M0 B0 hb
  have hcs := fun C : Array Value => conv_same w3 C 58 58
  go_wp2_with fail
  refine (cofeed_new C3 ((Below.refl _ _).alloc (Nat.le_refl _) _) w3.heap.size b58 _ (lit_src w3 b58 58 _ _ rfl (by decide) rfl) (.inr ⟨Nat.le_refl _, by simp⟩)).mono ?_
  rw [cl_feed]
  rintro e w4 ⟨rfl, A4⟩
  have C4 : Cn (fun k => k < w1.heap.size ∨ k = b) w1 w4 w1.heap.size rs [b58, []] 1048576 b 0 ⟨b58, [], 0, false, false, false⟩ := A4.1
  clear A4 C3 hcs
  have HX := conext_any C4 (by decide) (HMB.out _ C4.bel)
  rw [cl_next1] at HX
  unfold nxV r29 at HX
  simp only at HX
  go_wp2_with fail
  refine HX.mono ?_
  rintro e w5 ⟨fa, ba, fc, bc, rfl, -, -, A5⟩
  have C5 : Cn (fun k => k < w1.heap.size ∨ k = b) w1 w5 w1.heap.size rs [b31, []] 1048576 b 0 ⟨b31, [], 0, true, false, false⟩ := A5.1
  clear HX A5 C4
  have C6 := C5.below ((Below.refl _ _).alloc (Nat.le_refl _) (.cells #[.string ⟨#[71, 69, 84]⟩, .string ⟨#[47]⟩, .int .i64 1, .slice fa 1 fc, .slice ba 0 bc] 43))
  clear C5
  go_wp2_with fail
  generalize w5.alloc (.cells #[.string ⟨#[71, 69, 84]⟩, .string ⟨#[47]⟩, .int .i64 1, .slice fa 1 fc, .slice ba 0 bc] 43) = w6 at *
  obtain ⟨s0, p0'⟩ := S0.out w6 C6.bel
  refine (cosay_any C6 k0' f _ false s0 (.inl p0') (by omega)).mono ?_
  rw [cl_say1 f HF.out.2]
  rintro e w7 ⟨rfl, A7⟩
  have C7 : Cn (fun k => k < w1.heap.size ∨ k = b) w1 w7 w1.heap.size rs [b31, f] 1048576 b 0 ⟨b31, f, 0, false, false, false⟩ := A7.1
  clear A7 C6 s0 p0'
  have HX := conext_any C7 (show b31.length ≤ 6144 by decide) (HMB.out _ C7.bel)
  rw [cl_next2] at HX
  unfold nxV r31 at HX
  simp only at HX
  go_wp2_with fail
  refine HX.mono ?_
  rintro e w8 ⟨fa8, ba8, fc8, bc8, rfl, -, -, A8⟩
  have C8 : Cn (fun k => k < w1.heap.size ∨ k = b) w1 w8 w1.heap.size rs [[], f] 1048576 b 0 ⟨[], f, 0, true, false, false⟩ := A8.1
  clear HX A8 C7
  have C9 := C8.below ((Below.refl _ _).alloc (Nat.le_refl _) (.cells #[.string ⟨#[71, 69, 84]⟩, .string ⟨#[47, 110, 101, 120, 116]⟩, .int .i64 1, .slice fa8 1 fc8, .slice ba8 0 bc8] 43))
  clear C8
  go_wp2_with fail
  generalize w8.alloc (.cells #[.string ⟨#[71, 69, 84]⟩, .string ⟨#[47, 110, 101, 120, 116]⟩, .int .i64 1, .slice fa8 1 fc8, .slice ba8 0 bc8] 43) = w9 at *
  obtain ⟨s2, p2'⟩ := S2.out w9 C9.bel
  refine (cofeed_any C9 k2' mo _ s2 (.inl p2')).mono ?_
  rw [cl_feed2 f mo HF.out.2 HN.out.2]
  rintro e w10 ⟨rfl, A10⟩
  have C10 : Cn (fun k => k < w1.heap.size ∨ k = b) w1 w10 w1.heap.size rs [mo, f] 1048576 b 0 ⟨mo, f, 0, true, false, false⟩ := A10.1
  clear A10 C9 s2 p2'
  go_wp2_with fail
  obtain ⟨s1, p1'⟩ := S1.out w10 C10.bel
  refine (cosay_any C10 k1' l _ true s1 (.inl p1') (by omega)).mono ?_
  rw [cl_say2 f l mo HF.out.2 HL.out.2]
  rintro e w11 ⟨rfl, A11⟩
  have C11 : Cn (fun k => k < w1.heap.size ∨ k = b) w1 w11 w1.heap.size rs [[], f ++ l] 1048576 b 0 ⟨[], f ++ l, 0, false, false, true⟩ := A11.1
  clear A11 C10 s1 p1'
  go_wp2_with fail
  obtain ⟨s2, p2'⟩ := S2.out w11 C11.bel
  refine (cofeed_any C11 k2' mo _ s2 (.inl p2')).mono ?_
  rw [cl_feed3]
  rintro e w12 ⟨rfl, A12⟩
  have C12 : Cn (fun k => k < w1.heap.size ∨ k = b) w1 w12 w1.heap.size rs [[], f ++ l] 1048576 b 0 ⟨[], f ++ l, 0, false, false, true⟩ := A12.1
  clear A12 C11 s2 p2'
  have hxl : (((⟨[], f ++ l, 0, false, false, true⟩ : Cs).li.length + (⟨[], f ++ l, 0, false, false, true⟩ : Cs).lo.length : Nat) : Int) = (fn : Int) + ln := by
    obtain ⟨x1, x2⟩ := HF.out
    obtain ⟨x3, x4⟩ := HL.out
    simp only [List.length_append, List.length_nil]
    omega
  have y3 : (fn : Int) + ln ≤ 2000 := by have := HF.out; have := HL.out; omega
  have HQ := coheld_any C12
  rw [hxl] at HQ
  go_wp2_with fail
  refine HQ.mono ?_
  rintro e w13 ⟨rfl, B13⟩
  have C13 := C12.below B13
  clear HQ C12 B13
  obtain ⟨p, HK⟩ := C13.many
  have HD := held_q w1.heap.size 1048576 _ p w13 HK.isM
  rw [show (((tot [[], f ++ l] : Nat)) : Int) = (fn : Int) + ln by rw [tot2]; exact hxl] at HD
  clear HK
  go_wp2_with fail
  refine HD.mono ?_
  rintro e w' ⟨rfl, hw⟩
  rw [hw]
  clear hw HD
  have HQ := coheld_any C13
  rw [hxl] at HQ
  go_wp2_with fail
  refine HQ.mono ?_
  rintro e w14 ⟨rfl, B14⟩
  have C14 := C13.below B14
  clear HQ C13 B14
  go_wp2_with fail
  refine (cowaits_any C14 (Nat.zero_le _) (HMB.out _ C14.bel)).mono ?_
  rw [cl_wait]
  rintro e w15 ⟨rfl, A15⟩
  have C15 : Cn (fun k => k < w1.heap.size ∨ k = b) w1 w15 w1.heap.size rs [[], f ++ l] 1048576 b 0 ⟨[], f ++ l, 0, false, false, true⟩ := A15.1
  clear A15 C14
  have HX := conext_any C15 (Nat.zero_le _) (HMB.out _ C15.bel)
  rw [cl_next3] at HX
  unfold nxV rdNo at HX
  simp only [List.length_nil] at HX
  go_wp2_with fail
  refine HX.mono ?_
  rintro e w16 ⟨fa16, ba16, fc16, bc16, rfl, -, -, A16⟩
  have C16 : Cn (fun k => k < w1.heap.size ∨ k = b) w1 w16 w1.heap.size rs [[], f ++ l] 1048576 b 0 ⟨[], f ++ l, 0, false, false, true⟩ := A16.1
  clear HX A16 C15
  have C17 := C16.below ((Below.refl _ _).alloc (Nat.le_refl _) (.cells #[.string ⟨#[]⟩, .string ⟨#[]⟩, .int .i64 0, .slice fa16 0 fc16, .slice ba16 0 bc16] 43))
  clear C16
  go_wp2_with fail
  generalize w16.alloc (.cells #[.string ⟨#[]⟩, .string ⟨#[]⟩, .int .i64 0, .slice fa16 0 fc16, .slice ba16 0 bc16] 43) = w17 at *
  refine (coclosing_any C17).mono ?_
  rintro e w' ⟨rfl, hw⟩
  rw [hw]
  clear hw
  have hlen : (((f ++ l).length : Nat) : Int) = (fn : Int) + ln := by rw [← hxl]; simp
  have h2k : (f ++ l).length ≤ 2000 := by omega
  have hw18 : windowS ⟨[], f ++ l, 0, false, false, true⟩ ((fn : Int) + ln) = ⟨[], f ++ l, ((f ++ l).length : Nat), false, false, true⟩ := by rw [← hlen]; exact cl_win _ h2k
  have H18 := cowindow_any C17 ((fn : Int) + ln)
  rw [hw18] at H18
  have HLEN : Hid ((((f ++ l).length : Nat) : Int) = (fn : Int) + ln ∧ (f ++ l).length ≤ 2000) := ⟨hlen, h2k⟩
  clear hlen h2k hw18 hxl
  go_wp2_with fail
  refine H18.mono ?_
  rintro e w18 ⟨rfl, A18⟩
  have C18 : Cn (fun k => k < w1.heap.size ∨ k = b) w1 w18 w1.heap.size rs [[], f ++ l] 1048576 b 0 ⟨[], f ++ l, ((f ++ l).length : Nat), false, false, true⟩ := A18.1
  clear A18 C17 H18
  have H19 := cowrite_any C18 1073741824
  rw [cl_n _ HLEN.out.2, cl_write _ HLEN.out.2] at H19
  go_wp2_with fail
  refine H19.mono ?_
  rintro e w19 ⟨g, rfl, hg, hrow, A19⟩
  have C19 : Cn (fun k => k < w1.heap.size ∨ k = b) w1 w19 w1.heap.size rs [[], []] 1048576 b 0 ⟨[], [], 0, false, false, true⟩ := A19.1.weak (fun _ h => .inl h) C18.own
  rw [List.take_length] at hrow
  have hgl := heap_lt hrow
  have SX := src_row hrow rfl (Nat.le_trans HLEN.out.2 (by decide))
  clear A19 C18 H19 hrow
  have U0 : Below w19.heap.size w19 (w19.alloc (.cells #[] 5)) := (Below.refl _ _).alloc (Nat.le_refl _) _
  obtain ⟨s0, p0'⟩ := S0.out _ (C19.bel.trans (U0.mono C19.bel.size))
  obtain ⟨v1, w20, r20, O20, B20⟩ := own_append (Own.empty w19.heap.size w19 (Nat.le_refl _)) s0 z0 (by have := HF.out; simp only [List.length_nil]; omega) U0.size
  have D20 := U0.trans B20
  obtain ⟨s1, p1'⟩ := S1.out _ (C19.bel.trans (D20.mono C19.bel.size))
  obtain ⟨v2, w21, r21, O21, B21⟩ := own_append O20 s1 z1 (by have := HF.out; have := HL.out; simp only [List.nil_append]; omega) D20.size
  have D21 := D20.trans B21
  have R20 : Hid _ := r20
  have R21 : Hid _ := r21
  obtain ⟨kx, sx, -⟩ := O21.src
  have HS := sameBytes_eq (f ++ l) g kx _ v2 w21 (SX.below hgl D21) sx
  have C21 := C19.below D21
  clear r20 r21 U0 s0 p0' B20 s1 p1' O20 O21 B21 SX sx C19 D20 D21 S0 S1 S2
  generalize (f ++ l).length = xl at *
  go_wp2_with (first | (at_builtin; refine wpList_append_run2 rfl _ _ 31 31 rfl _ _ _ w20 rfl rfl R20.out ?_) | (at_builtin; refine wpList_append_run2 rfl _ _ 31 31 rfl _ _ _ w21 rfl rfl R21.out ?_))
  refine HS.mono ?_
  rintro e w22 ⟨rfl, B22⟩
  have C22 := C21.below B22
  clear HS C21 B22 R20 R21
  go_wp2_with fail
  refine (codone_any C22).mono ?_
  rw [show doneS ⟨[], [], 0, false, false, true⟩ = true from rfl]
  rintro e w' ⟨rfl, hw⟩
  rw [hw]
  clear hw
  obtain ⟨p, HK⟩ := C22.many
  have HD := held_q w1.heap.size 1048576 _ p w22 HK.isM
  rw [show (((tot [[], []] : Nat)) : Int) = 0 from rfl] at HD
  clear HK
  go_wp2_with fail
  refine HD.mono ?_
  rintro e w' ⟨rfl, hw⟩
  rw [hw]
  clear hw HD
  go_wp2_with fail
  refine (cowant_any C22).mono ?_
  rw [show wantS ⟨[], [], 0, false, false, true⟩ = 0 from rfl]
  rintro e w23 ⟨rfl, B23⟩
  have C23 := C22.below B23
  have HE : Hid (Below w.heap.size w w23) := HB1.out.trans (C23.bel.mono HB1.out.size)
  clear C22 C23 B23
  go_wp2
  go_ret
  exact ⟨rfl, HE.out⟩
end Go.Proofs.YtemmmdhmkegaaaaGreatDoor

/- Rows of structures of k cells each, told by a function; of one's own, and such as are only read. -/
namespace Go.Proofs.YtemmmdhmkegaaaaGreatDoor
open Go.RowKit
set_option linter.unusedVariables false

/-- How the elements of a type lie: k cells each. -/
structure EncR (α : Type) (k : Nat) (enc : α → Array Value) : Prop where
  sz : ∀ x, (enc x).size = k
  one : ∀ x, ∀ v ∈ (enc x).toList, v.oneCell' = true
  pos : 0 < k
def enR {α : Type} (enc : α → Array Value) (l : List α) : List Value := l.flatMap fun x => (enc x).toList
theorem enR_app {α : Type} (enc : α → Array Value) (x y : List α) : enR enc (x ++ y) = enR enc x ++ enR enc y := by unfold enR; rw [List.flatMap_append]
theorem enR_len {α : Type} {k : Nat} {enc : α → Array Value} (E : EncR α k enc) (l : List α) : (enR enc l).length = l.length * k := by
  induction l with
  | nil => show 0 = 0 * k; omega
  | cons f l ih =>
    show ((enc f).toList ++ enR enc l).length = (l.length + 1) * k
    rw [List.length_append, ih, Array.length_toList, E.sz, Nat.add_mul]; omega
theorem enR_one {α : Type} {k : Nat} {enc : α → Array Value} (E : EncR α k enc) (l : List α) : ∀ v ∈ enR enc l, v.oneCell' = true := by
  intro v hv
  unfold enR at hv
  obtain ⟨f, _, hf⟩ := List.mem_flatMap.1 hv
  exact E.one f v hf
theorem enR_at {α : Type} {k : Nat} {enc : α → Array Value} (E : EncR α k enc) : ∀ (l : List α) (j : Nat) (x : α), l[j]? = some x → ∀ i, i < k → (enR enc l)[j * k + i]? = (enc x)[i]?
  | [], j, x, h => by simp at h
  | f :: l, 0, x, h => fun i hi => by
    obtain rfl : f = x := by simpa using h
    show ((enc f).toList ++ enR enc l)[0 * k + i]? = _
    rw [Nat.zero_mul, Nat.zero_add, List.getElem?_append_left (by rw [Array.length_toList, E.sz]; exact hi), Array.getElem?_toList]
  | f :: l, j + 1, x, h => fun i hi => by
    have r := enR_at E l j x (by simpa using h) i hi
    show ((enc f).toList ++ enR enc l)[(j + 1) * k + i]? = _
    have e : (j + 1) * k + i = j * k + i + k := by rw [Nat.add_mul]; omega
    rw [List.getElem?_append_right (by rw [Array.length_toList, E.sz, e]; omega), Array.length_toList, E.sz, e, Nat.add_sub_cancel]
    exact r
theorem gr_new (w : World) (o : Obj) : (w.alloc o).heap[w.heap.size]? = some o := by
  show (w.heap.push o)[w.heap.size]? = _; simp
theorem gr_cell {w : World} {b o : Nat} {cs : Array Value} {t : TypeId} {v : Value} (h : w.heap[b]? = some (.cells cs t)) (hv : cs[o]? = some v) : w.cell? ⟨b, o, none⟩ = some v := by
  simp [World.cell?, h, hv]
theorem gr_add (b o i : Nat) : (⟨b, o, none⟩ : Addr).add i = ⟨b, o + i, none⟩ := by unfold Addr.add; split <;> simp_all
theorem gr_info {P : Program} {t : TypeId} {z : Value} {s b : Nat} (h : (P.info? t).map (fun i => (i.zero, i.size, i.bytes)) = some (some z, s, b)) : ∃ i, P.info? t = some i ∧ i.zero = some z ∧ i.size = s ∧ i.bytes = b := by
  obtain ⟨i, hi, hz⟩ := Option.map_eq_some_iff.1 h
  injection hz with hz0 hz
  injection hz with hz1 hz2
  exact ⟨i, hi, hz0, hz1, hz2⟩
/-- A row that is only read. -/
def RdR {α : Type} (k : Nat) (enc : α → Array Value) (w : World) (a : Option Addr) (c : Nat) (l : List α) : Prop :=
  (a = none → c = 0) ∧ l.length ≤ c ∧ c ≤ maxLen ∧ (0 < l.length → ∃ g off, a = some ⟨g, off, none⟩ ∧ g < w.heap.size ∧ ∀ j x, l[j]? = some x → ∀ i, i < k → w.cell? ⟨g, off + j * k + i, none⟩ = (enc x)[i]?)
theorem RdR.emp {α : Type} (k : Nat) (enc : α → Array Value) (w : World) : RdR k enc w none 0 [] := ⟨fun _ => rfl, Nat.le_refl _, Nat.zero_le _, fun h => absurd h (Nat.lt_irrefl _)⟩
theorem RdR.move {α : Type} {k : Nat} {enc : α → Array Value} {w w' : World} {a : Option Addr} {c : Nat} {l : List α} (h : RdR k enc w a c l) (hm : ∀ g off, a = some ⟨g, off, none⟩ → g < w.heap.size → w'.heap[g]? = w.heap[g]?) : RdR k enc w' a c l := by
  obtain ⟨h1, h2, h3, h4⟩ := h
  refine ⟨h1, h2, h3, fun hp => ?_⟩
  obtain ⟨g, off, e, hg, hc⟩ := h4 hp
  have hb := hm g off e hg
  refine ⟨g, off, e, ?_, fun j x hj i hi => ?_⟩
  · rw [Array.getElem?_eq_getElem hg] at hb
    exact (Array.getElem?_eq_some_iff.1 hb).1
  · rw [World.cell?_of_block (w := w) (a := ⟨g, off + j * k + i, none⟩) hb]
    exact hc j x hj i hi
theorem RdR.keep {α : Type} {k : Nat} {enc : α → Array Value} {w w' : World} {a : Option Addr} {c : Nat} {l : List α} (h : RdR k enc w a c l) (b : Below w.heap.size w w') : RdR k enc w' a c l := h.move fun g off _ hg => b.block g hg
theorem RdR.bel {α : Type} {k B : Nat} {enc : α → Array Value} {w w' : World} {a : Option Addr} {c : Nat} {l : List α} (h : RdR k enc w a c l) (b : Below B w w') (hB : w.heap.size ≤ B) : RdR k enc w' a c l := h.keep (b.mono hB)
/-- Cells of the element at a place. -/
theorem RdR.at {α : Type} {k : Nat} {enc : α → Array Value} {w : World} {a : Option Addr} {c : Nat} {l : List α} (h : RdR k enc w a c l) {j : Nat} {x : α} (hj : l[j]? = some x) : ∃ g off, a = some ⟨g, off, none⟩ ∧ g < w.heap.size ∧ ∀ i, i < k → w.cell? ⟨g, off + j * k + i, none⟩ = (enc x)[i]? := by
  obtain ⟨g, off, e, hg, hc⟩ := h.2.2.2 (by have := (List.getElem?_eq_some_iff.1 hj).1; omega)
  exact ⟨g, off, e, hg, hc j x hj⟩
/-- A row of one's own, of the type T, from the block B on. -/
def OwR {α : Type} (T : TypeId) (k : Nat) (enc : α → Array Value) (B : Nat) (w : World) (v : Value) (l : List α) : Prop := w.ownsRow B T k v l.length (enR enc l)
theorem OwR.empty {α : Type} (T : TypeId) (k : Nat) (enc : α → Array Value) (B : Nat) (w : World) (hB : B ≤ w.heap.size) : OwR T k enc B (w.alloc (.cells #[] T)) (.slice (some ⟨w.heap.size, 0, none⟩) 0 0) [] :=
  ⟨by show 0 = 0 * k; omega, .inr ⟨w.heap.size, 0, #[], rfl, hB, gr_new _ _, Nat.le_refl _, by decide, by show 0 = 0 * k; omega, List.take_nil⟩⟩
theorem OwR.nil {α : Type} (T : TypeId) (k : Nat) (enc : α → Array Value) (B : Nat) (w : World) : OwR T k enc B w (.slice none 0 0) [] := ⟨by show 0 = 0 * k; omega, .inl ⟨rfl, rfl⟩⟩
theorem OwR.grow {α : Type} {T : TypeId} {k : Nat} {enc : α → Array Value} {B : Nat} {w w' : World} {v : Value} {l : List α} (h : OwR T k enc B w v l) (b : Below w.heap.size w w') : OwR T k enc B w' v l := by
  obtain ⟨h1, h2⟩ := h
  refine ⟨h1, ?_⟩
  rcases h2 with h2 | ⟨g, c, cur, hv, hB, hg, r⟩
  · exact .inl h2
  · exact .inr ⟨g, c, cur, hv, hB, (b.block g (Array.getElem?_eq_some_iff.1 hg).1).trans hg, r⟩
theorem OwR.move {α : Type} {T : TypeId} {k : Nat} {enc : α → Array Value} {B : Nat} {w w' : World} {v : Value} {l : List α} (h : OwR T k enc B w v l) (hm : ∀ g, v.ownBlock = some g → B ≤ g → g < w.heap.size → (∃ cur, w.heap[g]? = some (.cells cur T)) → w'.heap[g]? = w.heap[g]?) : OwR T k enc B w' v l := by
  obtain ⟨h1, h2⟩ := h
  refine ⟨h1, ?_⟩
  rcases h2 with h2 | ⟨g, c, cur, hv, hB, hg, r⟩
  · exact .inl h2
  · exact .inr ⟨g, c, cur, hv, hB, (hm g (by rw [hv]; rfl) hB (Array.getElem?_eq_some_iff.1 hg).1 ⟨cur, hg⟩).trans hg, r⟩
theorem OwR.mono {α : Type} {T : TypeId} {k : Nat} {enc : α → Array Value} {B C : Nat} {w : World} {v : Value} {l : List α} (h : OwR T k enc B w v l) (hC : C ≤ B) : OwR T k enc C w v l := by
  obtain ⟨h1, h2⟩ := h
  refine ⟨h1, ?_⟩
  rcases h2 with h2 | ⟨g, c, cur, hv, hB, r⟩
  · exact .inl h2
  · exact .inr ⟨g, c, cur, hv, Nat.le_trans hC hB, r⟩
/-- Where it lies, and that it can be read. -/
theorem OwR.rd {α : Type} {T : TypeId} {k : Nat} {enc : α → Array Value} (E : EncR α k enc) {B : Nat} {w : World} {v : Value} {l : List α} (h : OwR T k enc B w v l) : ∃ a c, v = .slice a l.length c ∧ RdR k enc w a c l ∧ ∀ g off, a = some ⟨g, off, none⟩ → B ≤ g ∧ g < w.heap.size ∧ v.ownBlock = some g := by
  obtain ⟨h1, ⟨h2, h3⟩ | ⟨g, c, cur, hv, hB, hg, hlc, hm, hs, ht⟩⟩ := h
  · exact ⟨none, 0, by rw [h2, h3], ⟨fun _ => rfl, by omega, Nat.zero_le _, fun q => by omega⟩, fun g off e => by cases e⟩
  · refine ⟨_, c, hv, ⟨(fun e => by cases e), hlc, hm, fun hl => ⟨g, 0, rfl, (Array.getElem?_eq_some_iff.1 hg).1, fun j x hj i hi => ?_⟩⟩, fun g' off e => by
      cases e
      exact ⟨hB, (Array.getElem?_eq_some_iff.1 hg).1, by rw [hv]; rfl⟩⟩
    have r := enR_at E l j x hj i hi
    have hjl := (List.getElem?_eq_some_iff.1 hj).1
    have hlt : j * k + i < l.length * k := by
      have : (j + 1) * k ≤ l.length * k := Nat.mul_le_mul_right k hjl
      rw [Nat.add_mul] at this; omega
    have e : cur[j * k + i]? = (enc x)[i]? := by
      rw [← r, ← ht, List.getElem?_take_of_lt hlt, Array.getElem?_toList]
    obtain ⟨u, hu⟩ : ∃ u, (enc x)[i]? = some u := ⟨(enc x)[i]'(by rw [E.sz]; exact hi), Array.getElem?_eq_getElem _⟩
    rw [hu] at e ⊢
    rw [Nat.zero_add]
    exact gr_cell hg e
theorem gr_news {α : Type} {k : Nat} {enc : α → Array Value} (E : EncR α k enc) (w : World) (x : α) (T : TypeId) : ∀ j u, (enR enc [x])[j]? = some u → (w.alloc (.cells (enc x) T)).cell? ((⟨w.heap.size, 0, none⟩ : Addr).add j) = some u := by
  intro j u hj
  have e : enR enc [x] = (enc x).toList := by unfold enR; simp
  rw [e, Array.getElem?_toList] at hj
  rw [gr_add, Nat.zero_add]
  exact gr_cell (gr_new _ _) hj
/-- An element, in a new block, put behind. -/
theorem owr_append {α : Type} {T S : TypeId} {k by8 : Nat} {z : Value} {enc : α → Array Value} (E : EncR α k enc) (hu : Tryz.prog.underlying S = some (.slice T)) (hin : (Tryz.prog.info? T).map (fun i => (i.zero, i.size, i.bytes)) = some (some z, k, by8)) (hz : z.cells.size = k) (hb8 : by8 ≤ 1024) {B : Nat} {w : World} {v : Value} {l : List α} (h : OwR T k enc B w v l) (hB : B ≤ w.heap.size) (x : α) (hl : l.length ≤ 4294967296) :
    ∃ v' w', (Builtin.append_ #[S, S] S #[v, .slice (some ⟨w.heap.size, 0, none⟩) 1 1]).run Tryz.prog (w.alloc (.cells (enc x) T)) = .ok v' w' ∧ OwR T k enc B w' v' (l ++ [x]) ∧ Below B w w' ∧ (v'.ownBlock = v.ownBlock ∨ ∃ g, v'.ownBlock = some g ∧ w.heap.size ≤ g) ∧ ∀ b, b < w.heap.size → v.ownBlock ≠ some b → w'.heap[b]? = w.heap[b]? := by
  obtain ⟨i, hi, hz0, hz1, hz2⟩ := gr_info hin
  have BA : Below w.heap.size w (w.alloc (.cells (enc x) T)) := (Below.refl _ _).alloc (Nat.le_refl _) _
  have hA := h.grow BA
  have hmul : (l.length + 1) * by8 ≤ (l.length + 1) * 1024 := Nat.mul_le_mul_left _ hb8
  obtain ⟨v', w', hr, q1, q2, q3, q4⟩ := run_append_own_at (P := Tryz.prog) _ B S S T i z k by8 hu hi hz0 hz1 hz2 hz E.pos v l.length (enR enc l) hA ⟨w.heap.size, 0, none⟩ 1 1 (enR enc [x]) (by rw [enR_len E]; rfl) (gr_news E w x T) (enR_one E _) (by unfold maxLen; omega) (by omega) (Nat.le_trans hB BA.size)
  refine ⟨v', w', hr, ?_, (BA.mono hB).trans ((Below.refl _ _).grown q2 (Nat.le_trans hB BA.size) (fun q hq => (World.ownsRow.lt hA q hq).1)), ?_, fun b hb hn => (q2.block b (by have := BA.size; omega) (fun e => hn e.symm)).trans (BA.block b hb)⟩
  · unfold OwR
    rw [List.length_append, enR_app]; exact q1
  · rcases q4 with q | q
    · exact .inl q
    · exact .inr ⟨_, q, BA.size⟩
end Go.Proofs.YtemmmdhmkegaaaaGreatDoor

/- Numbers that came in. -/
namespace Go.Proofs.YtemmmdhmkegaaaaGreatDoor
open Go.ChangeShapes Go.WideShapes Go.ChangeAt Go.RowKit
set_option linter.unusedVariables false

def Nums (w : World) (a : Option Addr) (len : Nat) : Prop := len ≤ maxLen ∧ (0 < len → ∃ b off, a = some ⟨b, off, none⟩ ∧ b < w.heap.size ∧ ∀ i, i < len → ∃ z, w.cell? ⟨b, off + i, none⟩ = some (.int .i64 z))
theorem open_nums {H : Type} {enc : TypeId × Value → H} {w : World} {base : Nat} {held : Bool} {a : Option Addr} {len cap : Nat} {x : DataW H × List MemPlace}
    (h : ∃ fuel, DataW.trod enc Tryz.prog w base (fun _ => true) held fuel 63 (Value.slice a len cap).cells.toList = some x) : Nums w a len := by
  obtain ⟨fuel, hf⟩ := h
  rcases open_ints Tryz.underlying63 Tryz.underlying3 (by kernel_rfl) hf with ⟨hcs, _⟩ | ⟨x, l, c, zs, hcs, _, hl, hm, hz, _, hcell, hwz⟩
  · simp [Value.cells] at hcs
    obtain ⟨rfl, rfl, rfl⟩ := hcs
    exact ⟨Nat.zero_le _, fun h => absurd h (Nat.lt_irrefl _)⟩
  · simp [Value.cells] at hcs
    obtain ⟨rfl, rfl, rfl⟩ := hcs
    have hz' : zs.length = cap := by simpa using hz
    refine ⟨Nat.le_trans hl hm, fun hp => ?_⟩
    obtain ⟨b, off, rfl, hc⟩ := ints_at hcell (by omega)
    exact ⟨b, off, rfl, cell_lt (hc 0 (by omega)), fun i hi => ⟨_, hc i (by omega)⟩⟩
end Go.Proofs.YtemmmdhmkegaaaaGreatDoor

/- The reference's Same: equal fields are the same. -/
namespace Go.Proofs.YtemmmdhmkegaaaaGreatDoor
open Go.ChangeShapes Go.WideShapes Go.ChangeAt Go.RowKit
set_option linter.unusedVariables false

set_option maxRecDepth 100000 in
set_option maxHeartbeats 1000000 in
theorem rsame_eq (a : Fs) (A B : Option Addr) (c d : Nat) (w : World) {X Y : Nat} (ha : Fds X w (.slice A a.length c) a) (hb : Fds Y w (.slice B a.length d) a) :
    Calls Tryz.prog 52 #[.slice A a.length c, .slice B a.length d] w fun e w' => e = .returned (.bool true) ∧ Below w.heap.size w w' := by
  have hla := ha.len
  unfold maxLen at hla
  rcases Nat.eq_zero_or_pos a.length with h0 | hp
  · have ea : a = [] := List.eq_nil_of_length_eq_zero h0
    subst ea
    clear ha hb hla h0
    go_enter Tryz.func52, Tryz.ntmps52
    go_wp2_with fail
    refine wp_loop_rounds 1 ?_
    rw [rounds_succ]
    go_wp2
    go_ret
    exact ⟨rfl, Below.refl _ _⟩
  · obtain ⟨A', c', e, _, _, _, h3⟩ := ha
    obtain ⟨rfl, _, rfl⟩ := slice_inj e
    obtain ⟨g1, o1, rfl, _, k1⟩ := h3 hp
    obtain ⟨B', d', e', _, _, _, h4⟩ := hb
    obtain ⟨rfl, _, rfl⟩ := slice_inj e'
    obtain ⟨g2, o2, rfl, _, k2⟩ := h4 hp
    have H1 : Hid (∀ (j : Nat) (hj : j < a.length), w.cell? ⟨g1, o1 + j * 2, none⟩ = some (.string a[j].1) ∧ w.cell? ⟨g1, o1 + j * 2 + 1, none⟩ = some (.string a[j].2)) := k1
    have H2 : Hid (∀ (j : Nat) (hj : j < a.length), w.cell? ⟨g2, o2 + j * 2, none⟩ = some (.string a[j].1) ∧ w.cell? ⟨g2, o2 + j * 2 + 1, none⟩ = some (.string a[j].2)) := k2
    have hln : a.length ≤ 9223372036854775807 := by omega
    clear k1 k2 e e' h3 h4 hla
    go_enter Tryz.func52, Tryz.ntmps52
    go_wp2_with fail
    go_loopw [5] (fun vi wr => ∃ k d : Nat, k ≤ a.length ∧ vi = .int .i64 k ∧ wr = w.drewN d) (fun vi _ => a.length - (intOf vi).toNat)
    case atStart => exact ⟨0, 0, Nat.zero_le _, rfl, by simp [World.drewN_zero]⟩
    case round =>
      obtain ⟨k, d, hk, rfl, rfl⟩ := hrel
      by_cases hlt : k < a.length
      · obtain ⟨p1, p2⟩ := H1.out k hlt
        obtain ⟨q1, q2⟩ := H2.out k hlt
        generalize a[k] = f at *
        obtain ⟨fn, fv⟩ := f
        simp only at p1 p2 q1 q2
        go_wp2
        go_quiet (fail)
        go_wp2
        go_roundw
        case rel => exact ⟨k + 1, _, by omega, by go_num, rfl⟩
        case measure => simp [intOf]; omega
      · go_wp2
        go_ret
        exact ⟨rfl, by refine ⟨?_, ?_, ?_, ?_, ?_⟩ <;> simp [World.drewN]⟩
end Go.Proofs.YtemmmdhmkegaaaaGreatDoor

/- The reference's SameReq: equal requests are the same. -/
namespace Go.Proofs.YtemmmdhmkegaaaaGreatDoor
open Go.RowKit
set_option linter.unusedVariables false

set_option maxRecDepth 100000 in
set_option maxHeartbeats 2000000 in
theorem samereq_eq (m t : ByteArray) (mi : Int) (fs : Fs) (body : List UInt8) (a1 a2 b1 b2 : Option Addr) (c1 c2 d1 d2 k1 k2 : Nat) (w : World) (hf1 : Fds w.heap.size w (.slice a1 fs.length c1) fs) (hf2 : Fds w.heap.size w (.slice a2 fs.length c2) fs) (hs1 : Src w k1 (.slice b1 body.length d1) body) (hk1 : 0 < body.length → k1 < w.heap.size) (hs2 : Src w k2 (.slice b2 body.length d2) body) (hk2 : 0 < body.length → k2 < w.heap.size) :
    Calls Tryz.prog 17 #[.agg #[.string m, .string t, .int .i64 mi, .slice a1 fs.length c1, .slice b1 body.length d1], .agg #[.string m, .string t, .int .i64 mi, .slice a2 fs.length c2, .slice b2 body.length d2]] w fun e w' => e = .returned (.bool true) ∧ Below w.heap.size w w' := by
  have C1 : Below w.heap.size w (w.alloc (.cells #[.string m, .string t, .int .i64 mi, .slice a1 fs.length c1, .slice b1 body.length d1] 43)) := (Below.refl _ _).alloc (Nat.le_refl _) _
  have C2 : Below w.heap.size w ((w.alloc (.cells #[.string m, .string t, .int .i64 mi, .slice a1 fs.length c1, .slice b1 body.length d1] 43)).alloc (.cells #[.string m, .string t, .int .i64 mi, .slice a2 fs.length c2, .slice b2 body.length d2] 43)) := C1.alloc C1.size _
  have h1 : ((w.alloc (.cells #[.string m, .string t, .int .i64 mi, .slice a1 fs.length c1, .slice b1 body.length d1] 43)).alloc (.cells #[.string m, .string t, .int .i64 mi, .slice a2 fs.length c2, .slice b2 body.length d2] 43)).heap[w.heap.size]? = some (.cells #[.string m, .string t, .int .i64 mi, .slice a1 fs.length c1, .slice b1 body.length d1] 43) := tblk_below (tblk_new _ _) ((Below.refl _ _).alloc (Nat.le_refl _) _)
  have h2 : ((w.alloc (.cells #[.string m, .string t, .int .i64 mi, .slice a1 fs.length c1, .slice b1 body.length d1] 43)).alloc (.cells #[.string m, .string t, .int .i64 mi, .slice a2 fs.length c2, .slice b2 body.length d2] 43)).heap[w.heap.size + 1]? = some (.cells #[.string m, .string t, .int .i64 mi, .slice a2 fs.length c2, .slice b2 body.length d2] 43) := by
    have k := tblk_new (w.alloc (.cells #[.string m, .string t, .int .i64 mi, .slice a1 fs.length c1, .slice b1 body.length d1] 43)) (.cells #[.string m, .string t, .int .i64 mi, .slice a2 fs.length c2, .slice b2 body.length d2] 43)
    have e : (w.alloc (.cells #[.string m, .string t, .int .i64 mi, .slice a1 fs.length c1, .slice b1 body.length d1] 43)).heap.size = w.heap.size + 1 := by simp
    rw [e] at k
    exact k
  have HF : Hid (Calls Tryz.prog 52 #[.slice a1 fs.length c1, .slice a2 fs.length c2] ((w.alloc (.cells #[.string m, .string t, .int .i64 mi, .slice a1 fs.length c1, .slice b1 body.length d1] 43)).alloc (.cells #[.string m, .string t, .int .i64 mi, .slice a2 fs.length c2, .slice b2 body.length d2] 43)) fun e w' => e = .returned (.bool true) ∧ Below w.heap.size w w' ∧ w'.cell? ⟨w.heap.size, 4, none⟩ = some (.slice b1 body.length d1) ∧ w'.cell? ⟨w.heap.size + 1, 4, none⟩ = some (.slice b2 body.length d2)) := by
    refine (rsame_eq fs a1 a2 c1 c2 _ (hf1.over C2) (hf2.over C2)).mono ?_
    rintro e w' ⟨he, hB⟩
    exact ⟨he, C2.trans (hB.mono C2.size), tblk_cell (tblk_below h1 hB) rfl, tblk_cell (tblk_below h2 hB) rfl⟩
  have HS : Hid (∀ W, Below w.heap.size w W → Calls Tryz.prog 27 #[.slice b1 body.length d1, .slice b2 body.length d2] W fun e w' => e = .returned (.bool true) ∧ Below W.heap.size W w') := fun W B => sameBytes_eq body k1 k2 _ _ W (hs1.keep hk1 B) (hs2.keep hk2 B)
  have x0 := tblk_cell (i := 0) h1 rfl
  have x1 := tblk_cell (i := 1) h1 rfl
  have x2 := tblk_cell (i := 2) h1 rfl
  have x3 := tblk_cell (i := 3) h1 rfl
  have y0 := tblk_cell (i := 0) h2 rfl
  have y1 := tblk_cell (i := 1) h2 rfl
  have y2 := tblk_cell (i := 2) h2 rfl
  have y3 := tblk_cell (i := 3) h2 rfl
  clear hf1 hf2 hs1 hk1 hs2 hk2 C1 C2 h1 h2
  generalize fs.length = fl at *
  generalize body.length = bl at *
  go_enter Tryz.func17, Tryz.ntmps17
  go_wp2_with fail
  refine HF.out.mono ?_
  rintro e w1 ⟨rfl, B1, q1, q2⟩
  clear HF x0 x1 x2 x3 y0 y1 y2 y3
  go_wp2_with fail
  refine (HS.out _ B1).mono ?_
  rintro e w2 ⟨rfl, B2⟩
  have D2 := B1.trans (B2.mono B1.size)
  go_wp2
  go_ret
  exact ⟨rfl, D2⟩
end Go.Proofs.YtemmmdhmkegaaaaGreatDoor

/- ConnPieces: plain facts; the requests that were read. -/
namespace Go.Proofs.YtemmmdhmkegaaaaGreatDoor
open Go.RowKit
set_option linter.unusedVariables false

theorem rqP_nn (s : ByteArray) : 0 ≤ (rqP s).code := by
  unfold rqP
  split
  · unfold rq3
    repeat' split
    all_goals first | exact Int.le_refl 0 | (unfold rqNo; decide)
  · unfold rqNo; decide
theorem toldF_nn (fs : Fs) (minor : Int) : 0 ≤ (toldF fs minor).2.2 := by
  unfold toldF
  repeat' split
  all_goals first | decide | exact Int.le_refl 0
theorem hst_nn (full : Bool) (e : Int) : 0 ≤ hst full e := by
  unfold hst
  repeat' split
  all_goals decide
theorem plusH_nn {a : Fs} {i : Nat} {r : Fs × Nat × Int} (h : 0 ≤ r.2.2) : 0 ≤ (plusH a i r).2.2 := by
  unfold plusH
  split
  · exact h
  · exact Int.le_refl 0
theorem fldL_nn (full : Bool) : ∀ (r : Nat) (l : List UInt8), 0 ≤ (fldL full r l).2.2 := by
  intro r
  induction r with
  | zero =>
    intro l
    show 0 ≤ (fldK full l _).2.2
    unfold fldK
    split
    · exact hst_nn _ _
    · repeat' split
      all_goals first | decide | exact Int.le_refl 0 | (show (0 : Int) ≤ 431; decide)
  | succ r ih =>
    intro l
    show 0 ≤ (fldK full l _).2.2
    unfold fldK
    split
    · exact hst_nn _ _
    · split
      · decide
      · split
        · exact plusH_nn (ih _)
        · decide
theorem headL_nn (b : List UInt8) : 0 ≤ (headL rqSt b).2.2 := by
  rcases cut_cases 2048 (b.take 2048) with ⟨i, hc, hl, _⟩ | ⟨e, hc⟩
  · by_cases hs : rqSt (tx ((b.take 2048).take i)) = 0
    · rw [headL_hit hc hs]; exact plusH_nn (fldL_nn _ _ _)
    · rw [headL_bad hc hs]; exact rqP_nn _
  · rw [headL_miss hc]; exact hst_nn _ _
theorem headQ_nn (b : List UInt8) : 0 ≤ (headQ b).st := by
  unfold headQ
  split
  · exact headL_nn b
  · split
    · exact Int.le_refl 0
    · show 0 ≤ headSt _ _
      unfold headSt
      split
      · exact toldF_nn _ _
      · decide
theorem reqQ_nn (b : List UInt8) : 0 ≤ (reqQ b).st := by
  unfold reqQ
  split
  · exact headQ_nn b
  · unfold rdOf
    split
    · show 0 ≤ bodySt _
      unfold bodySt
      repeat' split
      all_goals decide
    · exact Int.le_refl 0
/-- Where the request g begins. -/
def posF (b : List UInt8) : Nat → Nat
  | 0 => 0
  | g + 1 => posF b g + (reqQ (b.drop (posF b g))).n
def rqAt (b : List UInt8) (g : Nat) : Rd := reqQ (b.drop (posF b g))
def okG (b : List UInt8) (g : Nat) : Prop := ∀ j, j < g → ¬ (rqAt b j).n = 0
theorem posF_succ (b : List UInt8) (g : Nat) : posF b (g + 1) = posF b g + (rqAt b g).n := rfl
theorem okG_succ {b : List UInt8} {g : Nat} (h : okG b g) (k : ¬ (rqAt b g).n = 0) : okG b (g + 1) := fun j hj => by
  rcases Nat.lt_or_ge j g with c | c
  · exact h j c
  · obtain rfl : j = g := by omega
    exact k
theorem okG_le {b : List UInt8} {g m : Nat} (h : okG b g) (k : (rqAt b m).n = 0) : g ≤ m := by
  rcases Nat.lt_or_ge m g with c | c
  · exact absurd k (h m c)
  · exact c
theorem okG_eq {b : List UInt8} {g m : Nat} (h : okG b g) (k : (rqAt b m).n = 0) (h2 : okG b m) (k2 : (rqAt b g).n = 0) : g = m := Nat.le_antisymm (okG_le h k) (okG_le h2 k2)
theorem posF_le {b : List UInt8} : ∀ g, posF b g ≤ b.length := by
  intro g
  induction g with
  | zero => exact Nat.zero_le _
  | succ g ih =>
    rw [posF_succ]
    have h : (rqAt b g).n ≤ (b.drop (posF b g)).length := by
      unfold rqAt
      rcases reqQ_three (b.drop (posF b g)) with e | ⟨s, e, _⟩ | ⟨m, t, mi, fs, x, n, e, _, hl⟩
      · rw [e]; exact Nat.zero_le _
      · rw [e]; exact Nat.zero_le _
      · rw [e]; exact hl
    rw [List.length_drop] at h
    omega
/-- What has come and is not read yet. -/
def inF (b : List UInt8) (p g : Nat) : List UInt8 := (b.take p).drop (posF b g)
theorem inF_len (b : List UInt8) (p g : Nat) (hp : p ≤ b.length) : (inF b p g).length = p - posF b g := by unfold inF; rw [List.length_drop, List.length_take]; omega
theorem inF_app (b : List UInt8) (p g : Nat) (hg : posF b g ≤ p) (hp : p ≤ b.length) : inF b p g ++ b.drop p = b.drop (posF b g) := by
  unfold inF
  have e := List.drop_append_of_le_length (l₁ := b.take p) (l₂ := b.drop p) (i := posF b g) (by rw [List.length_take]; omega)
  rw [List.take_append_drop] at e
  exact e.symm
theorem inF_told (b : List UInt8) (p g : Nat) (hg : posF b g ≤ p) (hp : p ≤ b.length) (h : ¬ (reqQ (inF b p g)).n = 0 ∨ ¬ (reqQ (inF b p g)).st = 0) : rqAt b g = reqQ (inF b p g) := by
  unfold rqAt
  rw [← inF_app b p g hg hp]
  exact reqQ_app _ _ h
theorem inF_next (b : List UInt8) (p g : Nat) (hg : posF b g ≤ p) (hp : p ≤ b.length) (h : rqAt b g = reqQ (inF b p g)) : (inF b p g).drop (reqQ (inF b p g)).n = inF b p (g + 1) := by
  unfold inF at h ⊢
  rw [posF_succ, h, List.drop_drop]
theorem inF_feed (b : List UInt8) (p n g : Nat) (hg : posF b g ≤ p) (hp : p + n ≤ b.length) : inF b p g ++ (b.drop p).take n = inF b (p + n) g := by
  unfold inF
  rw [List.take_add, List.drop_append_of_le_length (by rw [List.length_take]; omega)]
theorem inF_all (b : List UInt8) (g : Nat) : inF b b.length g = b.drop (posF b g) := by unfold inF; rw [List.take_length]
-- a request in a row of one's own
structure RX where
  r : Rd
  fa : Option Addr
  ba : Option Addr
  fc : Nat
  bc : Nat
def encX (x : RX) : Array Value := #[.string x.r.m, .string x.r.t, .int .i64 x.r.minor, .slice x.fa x.r.fs.length x.fc, .slice x.ba x.r.body.length x.bc]
theorem EX : EncR RX 5 encX := ⟨fun _ => rfl, fun x v hv => by simp [encX] at hv; rcases hv with rfl | rfl | rfl | rfl | rfl <;> rfl, by decide⟩
theorem infoX : (Tryz.prog.info? 43).map (fun i => (i.zero, i.size, i.bytes)) = some (some (.agg #[.string ByteArray.empty, .string ByteArray.empty, .int .i64 0, .slice none 0 0, .slice none 0 0]), 5, 88) := by kernel_rfl
/-- Its rows lie in the blocks kf and kb. -/
structure RowAt (w : World) (x : RX) (kf kb : Nat) : Prop where
  lf : kf < w.heap.size
  lb : kb < w.heap.size
  val : ∀ w', w.heap.size ≤ w'.heap.size → w'.heap[kf]? = w.heap[kf]? → w'.heap[kb]? = w.heap[kb]? → Fds w'.heap.size w' (.slice x.fa x.r.fs.length x.fc) x.r.fs ∧ Src w' kb (.slice x.ba x.r.body.length x.bc) x.r.body
theorem RowAt.move {w w' : World} {x : RX} {kf kb : Nat} (h : RowAt w x kf kb) (hs : w.heap.size ≤ w'.heap.size) (h1 : w'.heap[kf]? = w.heap[kf]?) (h2 : w'.heap[kb]? = w.heap[kb]?) : RowAt w' x kf kb :=
  ⟨Nat.lt_of_lt_of_le h.lf hs, Nat.lt_of_lt_of_le h.lb hs, fun v q1 q2 q3 => h.val v (Nat.le_trans hs q1) (q2.trans h1) (q3.trans h2)⟩
theorem RowAt.now {w : World} {x : RX} {kf kb : Nat} (h : RowAt w x kf kb) : Fds w.heap.size w (.slice x.fa x.r.fs.length x.fc) x.r.fs ∧ Src w kb (.slice x.ba x.r.body.length x.bc) x.r.body := h.val w (Nat.le_refl _) rfl rfl
theorem fds_move {B : Nat} {w w' : World} {a : Option Addr} {n c : Nat} {fs : Fs} (h : Fds B w (.slice a n c) fs) (hm : ∀ g off, a = some ⟨g, off, none⟩ → w'.heap[g]? = w.heap[g]?) : Fds B w' (.slice a n c) fs := by
  obtain ⟨a', c', e, h1, h2, h3, h4⟩ := h
  obtain ⟨rfl, rfl, rfl⟩ := slice_inj e
  refine ⟨_, _, rfl, h1, h2, h3, fun hp => ?_⟩
  obtain ⟨g, off, ea, hg, hc⟩ := h4 hp
  refine ⟨g, off, ea, hg, fun j hj => ?_⟩
  have k := hm g off ea
  exact ⟨by unfold World.cell?; rw [k]; exact (hc j hj).1, by unfold World.cell?; rw [k]; exact (hc j hj).2⟩
/-- Rows of one's own. -/
theorem RowAt.own {B : Nat} {w : World} {r : Rd} {fa ba : Option Addr} {fc bc : Nat} (hf : OwnF B w (.slice fa r.fs.length fc) r.fs) (hb : Own B w (.slice ba r.body.length bc) r.body) (h0 : 0 < B) (hB : B ≤ w.heap.size) :
    ∃ kf kb, RowAt w ⟨r, fa, ba, fc, bc⟩ kf kb ∧ (kf = 0 ∨ B ≤ kf) ∧ (kb = 0 ∨ B ≤ kb) := by
  have F := hf.fds
  have hfb : ∃ kf, kf < w.heap.size ∧ (kf = 0 ∨ B ≤ kf) ∧ ∀ g off, fa = some ⟨g, off, none⟩ → kf = g := by
    obtain ⟨h1, ⟨h2, h3⟩ | ⟨g, c, cur, hv, hBg, hg, r1⟩⟩ := hf
    · obtain ⟨e1, -, -⟩ := slice_inj h2
      exact ⟨0, by omega, .inl rfl, fun g off e => by rw [e1] at e; cases e⟩
    · obtain ⟨e1, -, -⟩ := slice_inj hv
      exact ⟨g, heap_lt hg, .inr hBg, fun g' off e => by rw [e1] at e; cases e; rfl⟩
  obtain ⟨kf, f1, f2, f3⟩ := hfb
  have hbb : ∃ kb, kb < w.heap.size ∧ (kb = 0 ∨ B ≤ kb) ∧ Src w kb (.slice ba r.body.length bc) r.body := by
    obtain ⟨k, s, q⟩ := hb.src
    rcases Nat.eq_zero_or_pos r.body.length with z | z
    · obtain ⟨k', c, s'⟩ := s.any (g := 0) (B := w.heap.size) (fun h => by omega)
      have e : r.body = [] := List.eq_nil_of_length_eq_zero z
      obtain ⟨a', c', e1, q1, q2, q3⟩ := s
      exact ⟨0, by omega, .inl rfl, a', c', e1, q1, q2, fun h => by omega⟩
    · exact ⟨k, (q z).2, .inr (q z).1, s⟩
  obtain ⟨kb, b1, b2, b3⟩ := hbb
  refine ⟨kf, kb, ⟨f1, b1, fun w' hs h1 h2 => ⟨?_, b3.frame h2⟩⟩, f2, b2⟩
  exact (fds_move F (fun g off e => by rw [← f3 g off e]; exact h1)).mono hs
end Go.Proofs.YtemmmdhmkegaaaaGreatDoor

/- ConnPieces: the requests that are read of all bytes, in a row. -/
namespace Go.Proofs.YtemmmdhmkegaaaaGreatDoor
open Go.RowKit
set_option linter.unusedVariables false

/-- The row of the requests that were read, in the world wr. -/
structure W1 (w1 : World) (b : List UInt8) (m : Nat) (v5 : Value) (wr : World) (R : List RX) : Prop where
  ow : OwR 43 5 encX w1.heap.size wr v5 R
  rows : ∀ x ∈ R, ∃ kf kb, RowAt wr x kf kb ∧ v5.ownBlock ≠ some kf ∧ v5.ownBlock ≠ some kb
  len : R.length = m
  rd : ∀ j x, R[j]? = some x → x.r = rqAt b j
  ok : okG b m
  bel : Below w1.heap.size w1 wr
theorem W1.below {w1 wr w' : World} {b : List UInt8} {m : Nat} {v5 : Value} {R : List RX} (h : W1 w1 b m v5 wr R) (B : Below wr.heap.size wr w') : W1 w1 b m v5 w' R :=
  ⟨h.ow.grow B, fun x hx => by
    obtain ⟨kf, kb, r, q1, q2⟩ := h.rows x hx
    exact ⟨kf, kb, r.move B.size (B.block kf r.lf) (B.block kb r.lb), q1, q2⟩, h.len, h.rd, h.ok, h.bel.trans (B.mono h.bel.size)⟩
theorem W1.start {w1 : World} (b : List UInt8) : W1 w1 b 0 (.slice (some ⟨w1.heap.size, 0, none⟩) 0 0) (w1.alloc (.cells #[] 43)) [] :=
  ⟨OwR.empty _ _ _ _ _ (Nat.le_refl _), (fun x hx => by cases hx), rfl, (fun j x h => by simp at h), (fun j hj => by omega), (Below.refl _ _).alloc (Nat.le_refl _) _⟩
/-- One more. -/
theorem W1.next {w1 wr w2 w3 : World} {b : List UInt8} {m : Nat} {v5 : Value} {R : List RX} {fa ba : Option Addr} {fc bc : Nat} (h : W1 w1 b m v5 wr R) (B2 : Below wr.heap.size wr w2) (B3 : Below w2.heap.size w2 w3)
    (hf : OwnF wr.heap.size w2 (.slice fa (rqAt b m).fs.length fc) (rqAt b m).fs) (hb : Own wr.heap.size w2 (.slice ba (rqAt b m).body.length bc) (rqAt b m).body) (hn : ¬ (rqAt b m).n = 0) (hm : m ≤ 100) (h0 : 0 < w1.heap.size) :
    ∃ v' w', (Builtin.append_ #[64, 64] 64 #[v5, .slice (some ⟨w3.heap.size, 0, none⟩) 1 1]).run Tryz.prog (w3.alloc (.cells (encX ⟨rqAt b m, fa, ba, fc, bc⟩) 43)) = .ok v' w' ∧ W1 w1 b (m + 1) v' w' (R ++ [⟨rqAt b m, fa, ba, fc, bc⟩]) := by
  have hs1 := h.bel.size
  have h3 := h.below (B2.trans (B3.mono B2.size))
  obtain ⟨v', w', r, O, B, ow, bl⟩ := owr_append EX Tryz.underlying64 infoX rfl (by decide) h3.ow h3.bel.size ⟨rqAt b m, fa, ba, fc, bc⟩ (by rw [h.len]; omega)
  have hsz : w3.heap.size ≤ w'.heap.size := B.size
  have hne : ∀ k, k < w3.heap.size → v5.ownBlock ≠ some k → v'.ownBlock ≠ some k := fun k hk hn' e => by
    rcases ow with o | ⟨g, o, hg⟩
    · exact hn' (o.symm.trans e)
    · rw [o] at e; cases e; omega
  refine ⟨v', w', r, O, fun x hx => ?_, by rw [List.length_append, h.len]; rfl, fun j x hj => ?_, okG_succ h.ok hn, h3.bel.trans B⟩
  · rcases List.mem_append.1 hx with hx | hx
    · obtain ⟨kf, kb, ra, q1, q2⟩ := h3.rows x hx
      exact ⟨kf, kb, ra.move hsz (bl kf ra.lf q1) (bl kb ra.lb q2), hne kf ra.lf q1, hne kb ra.lb q2⟩
    · obtain rfl := List.mem_singleton.1 hx
      obtain ⟨kf, kb, ra, q1, q2⟩ := RowAt.own hf hb (Nat.lt_of_lt_of_le h0 hs1) B2.size
      have ra3 := ra.move B3.size (B3.block kf ra.lf) (B3.block kb ra.lb)
      have hg : ∀ k, (k = 0 ∨ wr.heap.size ≤ k) → v5.ownBlock ≠ some k := fun k hk e => by
        have := World.ownsRow.lt h.ow _ e
        omega
      exact ⟨kf, kb, ra3.move hsz (bl kf ra3.lf (hg kf q1)) (bl kb ra3.lb (hg kb q2)), hne kf ra3.lf (hg kf q1), hne kb ra3.lb (hg kb q2)⟩
  · rcases Nat.lt_or_ge j R.length with c | c
    · rw [List.getElem?_append_left c] at hj
      exact h.rd j x hj
    · rw [List.getElem?_append_right c] at hj
      have e : j - R.length = 0 := by
        rcases Nat.eq_zero_or_pos (j - R.length) with z | z
        · exact z
        · rw [List.getElem?_eq_none (by simp; omega)] at hj; cases hj
      rw [e] at hj
      have hx : x = ⟨rqAt b m, fa, ba, fc, bc⟩ := by simpa using hj.symm
      have hjm : j = m := by have := h.len; omega
      rw [hx, hjm]
end Go.Proofs.YtemmmdhmkegaaaaGreatDoor

/- ConnPieces: how far the connection is. -/
namespace Go.Proofs.YtemmmdhmkegaaaaGreatDoor
open Go.RowKit
set_option linter.unusedVariables false

/-- A connection whose first p bytes have come, and g requests are read of them; or it has told the status. -/
structure PB (w3 : World) (rs : List Nat) (cb : Nat) (wr : World) (s : Cs) : Prop where
  c : Cn (fun k => k < w3.heap.size ∨ k = cb) w3 wr w3.heap.size rs [s.li, s.lo] 1048576 cb 0 s
def opS (b : List UInt8) (p g : Nat) (bz : Bool) : Cs := ⟨inF b p g, [], 0, bz, false, false⟩
def clS : Cs := ⟨[], [], 0, false, false, true⟩
def PS (w3 : World) (rs : List Nat) (cb : Nat) (b : List UInt8) (m : Nat) (st : Int) (p g : Nat) (s : Int) (wr : World) : Prop :=
  (s = 0 ∧ posF b g ≤ p ∧ okG b g ∧ PB w3 rs cb wr (opS b p g false)) ∨ (g = m ∧ s = st ∧ ¬ st = 0 ∧ PB w3 rs cb wr clS)
section
variable {w3 : World} {rs : List Nat} {cb : Nat} {b : List UInt8} {m : Nat} {st : Int} {p g : Nat} {s : Int} {wr : World}
theorem PS.bel (h : PS w3 rs cb b m st p g s wr) : Below w3.heap.size w3 wr := by
  rcases h with ⟨_, _, _, q⟩ | ⟨_, _, _, q⟩
  · exact q.c.bel
  · exact q.c.bel
theorem PS.feed {k n : Nat} {v : Value} (h : PS w3 rs cb b m st p g s wr) (hp : p + n ≤ b.length) (hb : b.length ≤ 3000) (hv : Src wr k v ((b.drop p).take n)) (hk : k < w3.heap.size) :
    Calls Tryz.prog 14 #[.pointer (some ⟨cb, 0, none⟩), v] wr fun e w' => e = .returned (.bool true) ∧ PS w3 rs cb b m st (p + n) g s w' := by
  rcases h with ⟨h1, h2, h3, q⟩ | ⟨h1, h2, h3, q⟩
  · have hl := inF_len b p g (by omega)
    have hl2 : ((b.drop p).take n).length = n := by rw [List.length_take, List.length_drop]; omega
    have e : feedS (opS b p g false) (tot [(opS b p g false).li, (opS b p g false).lo]) 1048576 ((b.drop p).take n) = (opS b (p + n) g false, true) := by
      unfold feedS
      rw [if_neg (show ¬ (opS b p g false).cl = true by show ¬ false = true; decide), tot2, if_pos (by show (((inF b p g).length + 0 : Nat) : Int) + _ ≤ _; rw [hl, hl2]; omega)]
      unfold opS
      rw [← inF_feed b p n g h2 hp]
    have k := cofeed_any q.c k _ v hv (.inl hk)
    rw [e] at k
    refine k.mono ?_
    rintro e w' ⟨rfl, A⟩
    exact ⟨rfl, .inl ⟨h1, by omega, h3, ⟨A.1⟩⟩⟩
  · have k := cofeed_any q.c k _ v hv (.inl hk)
    rw [show feedS clS (tot [clS.li, clS.lo]) 1048576 ((b.drop p).take n) = (clS, true) from rfl] at k
    refine k.mono ?_
    rintro e w' ⟨rfl, A⟩
    exact ⟨rfl, .inr ⟨h1, h2, h3, ⟨A.1⟩⟩⟩
/-- There is no request. -/
def noV (fa ba : Option Addr) (fc bc : Nat) (code : Int) : Value := .tuple #[.agg #[.string ⟨#[]⟩, .string ⟨#[]⟩, .int .i64 0, .slice fa 0 fc, .slice ba 0 bc], .int .i64 code]
theorem PS.next (h : PS w3 rs cb b m st p g s wr) (hp : p ≤ b.length) (hb : b.length ≤ 3000) (hM : MaxL wr) (hm : okG b m) (hst : rqAt b m = rdNo st) :
    (Calls Tryz.prog 16 #[.pointer (some ⟨cb, 0, none⟩)] wr fun e w' => ∃ fa ba fc bc, e = .returned (noV fa ba fc bc (-1)) ∧ PS w3 rs cb b m st p g s w' ∧ (s = 0 → reqQ (inF b p g) = rdNo 0)) ∨
    (s = 0 ∧ 0 < st ∧ Calls Tryz.prog 16 #[.pointer (some ⟨cb, 0, none⟩)] wr fun e w' => ∃ fa ba fc bc, e = .returned (noV fa ba fc bc st) ∧ PS w3 rs cb b m st p g st w') ∨
    (s = 0 ∧ g < m ∧ posF b (g + 1) ≤ p ∧ okG b (g + 1) ∧ Calls Tryz.prog 16 #[.pointer (some ⟨cb, 0, none⟩)] wr fun e w' => ∃ fa ba fc bc, e = .returned (nxV (rqAt b g) 0 fa ba fc bc) ∧
      OwnF wr.heap.size w' (.slice fa (rqAt b g).fs.length fc) (rqAt b g).fs ∧ Own wr.heap.size w' (.slice ba (rqAt b g).body.length bc) (rqAt b g).body ∧ PB w3 rs cb w' (opS b p (g + 1) true)) := by
  rcases h with ⟨h1, h2, h3, q⟩ | ⟨h1, h2, h3, q⟩
  · have hl : (opS b p g false).li.length ≤ 6144 := by show (inF b p g).length ≤ _; rw [inF_len b p g hp]; omega
    have k := conext_any q.c hl hM
    rcases reqQ_three (inF b p g) with e | ⟨t, e, ht⟩ | ⟨qm, qt, qmi, qfs, qx, qn, e, hqn, hle⟩
    · left
      have en : nextS (opS b p g false) = (opS b p g false, rdNo 0, -1) := by
        unfold nextS
        rw [if_neg (show ¬ (opS b p g false).bz = true by show ¬ false = true; decide), if_neg (show ¬ (opS b p g false).cl = true by show ¬ false = true; decide), show reqQ (opS b p g false).li = rdNo 0 from e]
        rfl
      rw [en] at k
      unfold nxV rdNo at k
      simp only [List.length_nil] at k
      refine k.mono ?_
      rintro e' w' ⟨fa, ba, fc, bc, rfl, -, -, A⟩
      exact ⟨fa, ba, fc, bc, rfl, .inl ⟨h1, h2, h3, ⟨A.1⟩⟩, fun _ => e⟩
    · right; left
      have ea : rqAt b g = rdNo t := (inF_told b p g h2 hp (.inr (by rw [e]; exact ht))).trans e
      have hg : g = m := okG_eq h3 (by rw [hst]; rfl) hm (by rw [ea]; rfl)
      have hts : t = st := by
        rw [hg] at ea
        have := ea.symm.trans hst
        exact congrArg Rd.st this
      have hnn := reqQ_nn (inF b p g)
      rw [e] at hnn
      have hnn : 0 ≤ t := hnn
      have en : nextS (opS b p g false) = (clS, rdNo 0, t) := by
        unfold nextS
        rw [if_neg (show ¬ (opS b p g false).bz = true by show ¬ false = true; decide), if_neg (show ¬ (opS b p g false).cl = true by show ¬ false = true; decide), show reqQ (opS b p g false).li = rdNo t from e]
        exact if_neg ht
      rw [en] at k
      unfold nxV rdNo at k
      simp only [List.length_nil] at k
      refine ⟨h1, by omega, k.mono ?_⟩
      rintro e' w' ⟨fa, ba, fc, bc, rfl, -, -, A⟩
      rw [hts]
      exact ⟨fa, ba, fc, bc, rfl, .inr ⟨hg, rfl, hts ▸ ht, ⟨A.1⟩⟩⟩
    · right; right
      have ea : rqAt b g = reqQ (inF b p g) := inF_told b p g h2 hp (.inl (by rw [e]; exact hqn))
      have hn : (rqAt b g).n = qn := by rw [ea, e]
      have hgm : g < m := by
        have := okG_le h3 (show (rqAt b m).n = 0 by rw [hst]; rfl)
        rcases Nat.lt_or_ge g m with c | c
        · exact c
        · obtain rfl : g = m := by omega
          rw [hst] at hn; exact absurd hn.symm hqn
      have hpos : posF b (g + 1) ≤ p := by
        rw [posF_succ, hn]
        have := inF_len b p g hp
        omega
      have en : nextS (opS b p g false) = (opS b p (g + 1) true, rqAt b g, 0) := by
        have hnx := inF_next b p g h2 hp ea
        unfold nextS
        rw [if_neg (show ¬ (opS b p g false).bz = true by show ¬ false = true; decide), if_neg (show ¬ (opS b p g false).cl = true by show ¬ false = true; decide), show reqQ (opS b p g false).li = reqQ (inF b p g) from rfl, if_pos (by rw [e]), if_neg (by rw [e]; exact hqn)]
        unfold opS
        simp only
        rw [hnx, ea]
      rw [en] at k
      refine ⟨h1, hgm, hpos, okG_succ h3 (by rw [hn]; exact hqn), k.mono ?_⟩
      rintro e' w' ⟨fa, ba, fc, bc, rfl, o1, o2, A⟩
      exact ⟨fa, ba, fc, bc, rfl, o1, o2, ⟨A.1⟩⟩
  · left
    have k := conext_any q.c (show clS.li.length ≤ 6144 from Nat.zero_le _) hM
    rw [show nextS clS = (clS, rdNo 0, -1) from rfl] at k
    unfold nxV rdNo at k
    simp only [List.length_nil] at k
    refine k.mono ?_
    rintro e' w' ⟨fa, ba, fc, bc, rfl, -, -, A⟩
    exact ⟨fa, ba, fc, bc, rfl, .inr ⟨h1, h2, h3, ⟨A.1⟩⟩, fun h => absurd (h2.symm.trans h) h3⟩
/-- The empty response behind a request. -/
theorem PB.say (h : PB w3 rs cb wr (opS b p g true)) (h0 : 0 < w3.heap.size) (hne : 0 ≠ cb) : Calls Tryz.prog 21 #[.pointer (some ⟨cb, 0, none⟩), .slice none 0 0, .bool false] wr fun e w' => e = .returned (.bool true) ∧ PB w3 rs cb w' (opS b p g false) := by
  have k := cosay_any h.c 0 [] (.slice none 0 0) false ⟨none, 0, rfl, Nat.le_refl _, Nat.zero_le _, fun h => absurd h (Nat.lt_irrefl 0)⟩ (.inl h0) hne
  have e : sayS (opS b p g true) (tot [(opS b p g true).li, (opS b p g true).lo]) 1048576 [] false = (opS b p g false, true) := by
    have ht := h.c.fit
    have e2 := tot2 (opS b p g true).li (opS b p g true).lo
    unfold sayS noteS say2
    rw [if_pos]
    · rfl
    · simp only [Bool.false_eq_true, if_false, List.length_nil]
      omega
  rw [e] at k
  refine k.mono ?_
  rintro e w' ⟨rfl, A⟩
  exact ⟨rfl, ⟨A.1⟩⟩
/-- The same behind new memory; what else is kept. -/
theorem PB.sayN {V : World} (h : PB w3 rs cb wr (opS b p g true)) (B : Below wr.heap.size wr V) (h0 : 0 < w3.heap.size) (hne : 0 ≠ cb) : Calls Tryz.prog 21 #[.pointer (some ⟨cb, 0, none⟩), .slice none 0 0, .bool false] V fun e w' => e = .returned (.bool true) ∧ PB w3 rs cb w' (opS b p g false) ∧ ∀ k, (k < w3.heap.size ∨ (wr.heap.size ≤ k ∧ k < V.heap.size)) → k ≠ cb → w'.heap[k]? = V.heap[k]? := by
  have hc := h.c.belowN B
  have k := cosay_any hc 0 [] (.slice none 0 0) false ⟨none, 0, rfl, Nat.le_refl _, Nat.zero_le _, fun h => absurd h (Nat.lt_irrefl 0)⟩ (.inl (.inl h0)) hne
  have e : sayS (opS b p g true) (tot [(opS b p g true).li, (opS b p g true).lo]) 1048576 [] false = (opS b p g false, true) := by
    have ht := h.c.fit
    have e2 := tot2 (opS b p g true).li (opS b p g true).lo
    unfold sayS noteS say2
    rw [if_pos]
    · rfl
    · simp only [Bool.false_eq_true, if_false, List.length_nil]
      omega
  rw [e] at k
  refine k.mono ?_
  rintro e w' ⟨rfl, A⟩
  exact ⟨rfl, ⟨A.1.weak (fun j hj => .inl hj) h.c.own⟩, fun k hk hn => A.2.1 k (by rcases hk with q | q; exact .inl (.inl q); exact .inr q) hn⟩
theorem PB.below {w' : World} {t : Cs} (h : PB w3 rs cb wr t) (B : Below wr.heap.size wr w') : PB w3 rs cb w' t := ⟨h.c.below B⟩
theorem PS.below {w' : World} (h : PS w3 rs cb b m st p g s wr) (B : Below wr.heap.size wr w') : PS w3 rs cb b m st p g s w' := by
  rcases h with ⟨h1, h2, h3, q⟩ | ⟨h1, h2, h3, q⟩
  · exact .inl ⟨h1, h2, h3, q.below B⟩
  · exact .inr ⟨h1, h2, h3, q.below B⟩
/-- At the end all is told. -/
theorem PS.fin (h : PS w3 rs cb b m st b.length g s wr) (hr : s = 0 → reqQ (inF b b.length g) = rdNo 0) (hm : okG b m) (hst : rqAt b m = rdNo st) : g = m ∧ s = st ∧ ∃ t, PB w3 rs cb wr t ∧ t.cl = !(decide (st = 0)) := by
  rcases h with ⟨h1, h2, h3, q⟩ | ⟨h1, h2, h3, q⟩
  · have e := hr h1
    rw [inF_all] at e
    have e : rqAt b g = rdNo 0 := e
    have hg : g = m := okG_eq h3 (by rw [hst]; rfl) hm (by rw [e]; rfl)
    rw [hg] at e
    have hs : st = 0 := congrArg Rd.st (hst.symm.trans e)
    exact ⟨hg, by rw [h1, hs], _, q, by rw [hs]; rfl⟩
  · exact ⟨h1, h2, _, q, by rw [decide_eq_false h3]; rfl⟩
end
end Go.Proofs.YtemmmdhmkegaaaaGreatDoor

/- ConnPieces: the walk. -/
namespace Go.Proofs.YtemmmdhmkegaaaaGreatDoor
open Go.RowKit
set_option linter.unusedVariables false

theorem cell_keepP {w w' : World} {k o : Nat} {v : Value} (h : w.cell? ⟨k, o, none⟩ = some v) (e : w'.heap[k]? = w.heap[k]?) : w'.cell? ⟨k, o, none⟩ = some v := by
  unfold World.cell? at *; rw [e]; exact h
def lenV : Value → Nat
  | .slice _ n _ => n
  | _ => 0
/-- A slice of the bytes that came in, in every world of the walk. -/
def AtW (w1 : World) (k0 : Nat) (v : Value) (x : List UInt8) : Prop := k0 < w1.heap.size ∧ ∀ V, Below w1.heap.size w1 V → Src V k0 v x
theorem AtW.cut {w1 : World} {k0 n m c : Nat} {a a' : Option Addr} {x : List UInt8} (h : AtW w1 k0 (.slice a n c) x) (hm : m ≤ x.length) (ha : m < c → a' = a.map (fun y => y.add m)) : AtW w1 k0 (.slice a' (n - m) (c - m)) (x.drop m) := ⟨h.1, fun V hV => (h.2 V hV).cut hm ha⟩
theorem AtW.take {w1 : World} {k0 n m c : Nat} {a : Option Addr} {x : List UInt8} (h : AtW w1 k0 (.slice a n c) x) (hm : m ≤ x.length) : AtW w1 k0 (.slice a m c) (x.take m) := ⟨h.1, fun V hV => (h.2 V hV).take hm⟩
theorem AtW.len {w1 : World} {k0 n c : Nat} {a : Option Addr} {x : List UInt8} (h : AtW w1 k0 (.slice a n c) x) : x.length = n ∧ n ≤ c ∧ c ≤ maxLen := (h.2 w1 (Below.refl _ _)).len

set_option maxRecDepth 100000 in
set_option maxHeartbeats 2000000 in
theorem pieces18_walk (kb n0 c0 : Nat) (a0 : Option Addr) (b : List UInt8) (a1 : Option Addr) (n1 c1 : Nat) (w : World) (h0 : Src w kb (.slice a0 n0 c0) b) (q0 : 0 < b.length → kb < w.heap.size) (h1 : Nums w a1 n1) (hM : MaxL w) :
    Calls Tryz.prog 4 #[.slice a0 n0 c0, .slice a1 n1 c1] w fun e w' => e = .returned (.bool true) ∧ Below w.heap.size w w' := by
  have HA := alive18_any w hM
  obtain ⟨k0, p0, s0⟩ := h0.low q0 hM
  obtain ⟨e0, j1, j2⟩ := h0.len
  have m1 := h1.1
  unfold maxLen at m1 j2
  have HN1 : Hid (∀ i, i < n1 → ∃ bk off z, a1 = some ⟨bk, off, none⟩ ∧ bk < w.heap.size ∧ w.cell? ⟨bk, off + i, none⟩ = some (.int .i64 z)) := fun i hi => by
    obtain ⟨bk, off, e, hb, hc⟩ := h1.2 (by omega)
    obtain ⟨z, hz⟩ := hc i hi
    exact ⟨bk, off, z, e, hb, hz⟩
  by_cases g0 : 3000 < n0
  · have g0' : (3000 : Int) < n0 := by omega
    clear h0 h1 HN1 s0
    go_enter Tryz.func4, Tryz.ntmps4
    go_wp2_with fail
    refine HA.mono ?_
    rintro e w1 ⟨rfl, B1⟩
    go_wp2
    go_ret
    exact ⟨rfl, B1⟩
  have g1 : ¬ (3000 : Int) < n0 := by omega
  have HM : Hid (MaxL w) := hM
  have HS : Hid (Src w k0 (.slice a0 n0 c0) b ∧ k0 < w.heap.size ∧ b.length = n0 ∧ n0 ≤ 3000) := ⟨s0, p0, e0, by omega⟩
  clear h0 h1 q0 s0 p0 hM g0 e0
  go_enter Tryz.func4, Tryz.ntmps4
  go_wp2_with fail
  refine HA.mono ?_
  rintro e w1 ⟨rfl, B1⟩
  have HB1 : Hid (Below w.heap.size w w1) := B1
  have HBL : Hid (b.length ≤ 3000) := by have := HS.out; rw [Hid]; omega
  have HAT : Hid (AtW w1 k0 (.slice a0 n0 c0) b) := ⟨Nat.lt_of_lt_of_le HS.out.2.1 B1.size, fun V hV => (HS.out.1.below HS.out.2.1 B1).below (Nat.lt_of_lt_of_le HS.out.2.1 B1.size) hV⟩
  have HMX : Hid (∀ V, Below w1.heap.size w1 V → MaxL V) := fun V hV => (HM.out.below B1).below hV
  have HPOS : Hid (0 < w1.heap.size) := (HM.out.below B1).pos
  have HST : Hid _ := W1.start (w1 := w1) b
  clear HA B1 HM
  go_wp2_with fail
  go_loopw [5, 6, 7] (fun v5 v6 v7 wr => ∃ (m : Nat) (R : List RX) (a5 a6 : Option Addr) (c5 l6 c6 : Nat) (cd : Int), m ≤ 50 ∧ v5 = .slice a5 m c5 ∧ v6 = .slice a6 l6 c6 ∧ v7 = .int .i64 cd ∧ Hid (W1 w1 b m v5 wr R) ∧ Hid (AtW w1 k0 v6 (b.drop (posF b m)))) (fun v5 _ _ _ => 50 - lenV v5)
  case atStart => exact ⟨0, [], _, _, _, _, _, _, Nat.zero_le _, rfl, rfl, rfl, HST, HAT⟩
  case round =>
    obtain ⟨m, R, a5, a6, c5, l6, c6, cd, hm, rfl, rfl, rfl, HW, HT⟩ := hrel
    clear HST
    by_cases hm2 : m < 50
    · have k1 : (m : Int) < 50 := by omega
      have hl6 := HT.out.len
      have HQ := hreq_any (b.drop (posF b m)) k0 c6 a6 wr (by rw [hl6.1]; exact HT.out.2 wr HW.out.bel) (fun _ => Nat.lt_of_lt_of_le HT.out.1 HW.out.bel.size) (HMX.out wr HW.out.bel) (by have := HBL.out; rw [List.length_drop]; omega)
      rw [hl6.1] at HQ
      rw [show reqQ (b.drop (posF b m)) = rqAt b m from rfl] at HQ
      by_cases hn : (rqAt b m).n = 0
      · have hr : ∃ s, rqAt b m = rdNo s := by
          rcases reqQ_three (b.drop (posF b m)) with e | ⟨s, e, _⟩ | ⟨_, _, _, _, _, n, e, k, _⟩
          · exact ⟨0, e⟩
          · exact ⟨s, e⟩
          · exfalso; unfold rqAt at hn; rw [e] at hn; exact k hn
        obtain ⟨st, hr⟩ := hr
        rw [hr] at HQ
        unfold ReqR rdV rdNo at HQ
        simp only [List.length_nil] at HQ
        have HST : Hid (rqAt b m = rdNo st) := hr
        clear hr hn
        go_wp2_with fail
        refine HQ.mono ?_
        rintro e w2 ⟨fa, ba, fc, bc, rfl, -, -, B2⟩
        clear HQ
        have W3 := hidC ((HW.out.below B2).below ((Below.refl _ _).alloc (Nat.le_refl _) (.cells #[.string ⟨#[]⟩, .string ⟨#[]⟩, .int .i64 0, .slice fa 0 fc, .slice ba 0 bc] 43)))
        clear HW B2 HT hl6
        go_wp2_with fail
        generalize w2.alloc (.cells #[.string ⟨#[]⟩, .string ⟨#[]⟩, .int .i64 0, .slice fa 0 fc, .slice ba 0 bc] 43) = w3 at *
        have HX : Hid (∀ V, Below w3.heap.size w3 V → ∀ j x, R[j]? = some x → (∃ g off, a5 = some ⟨g, off, none⟩ ∧ ∀ i, i < 5 → V.cell? ⟨g, off + j * 5 + i, none⟩ = (encX x)[i]?) ∧ Fds V.heap.size V (.slice x.fa x.r.fs.length x.fc) x.r.fs ∧ ∃ kb, kb < V.heap.size ∧ Src V kb (.slice x.ba x.r.body.length x.bc) x.r.body) := fun V hV j x hx => by
          obtain ⟨kf, kb, ra, -, -⟩ := W3.out.rows x (List.mem_of_getElem? hx)
          have ra := ra.move hV.size (hV.block kf ra.lf) (hV.block kb ra.lb)
          obtain ⟨a', c', e, hrd, -⟩ := W3.out.ow.rd EX
          obtain ⟨rfl, -, rfl⟩ := slice_inj e
          obtain ⟨g, off, ea, hg, hc⟩ := (hrd.keep hV).at hx
          exact ⟨⟨g, off, ea, hc⟩, ra.now.1, kb, ra.lb, ra.now.2⟩
        have HR3 : Hid (R.length = m ∧ (∀ j x, R[j]? = some x → x.r = rqAt b j) ∧ okG b m ∧ Below w1.heap.size w1 w3) := ⟨W3.out.len, W3.out.rd, W3.out.ok, W3.out.bel⟩
        have HMV : Hid (∀ V, Below w3.heap.size w3 V → MaxL V) := fun V hV => HMX.out V (HR3.out.2.2.2.trans (hV.mono HR3.out.2.2.2.size))
        have HP3 : Hid (0 < w3.heap.size ∧ w1.heap.size ≤ w3.heap.size) := ⟨Nat.lt_of_lt_of_le HPOS.out HR3.out.2.2.2.size, HR3.out.2.2.2.size⟩
        have HB3 : Hid (Below w.heap.size w w3) := HB1.out.trans (HR3.out.2.2.2.mono HB1.out.size)
        have HA3 : Hid (AtW w3 k0 (.slice a0 n0 c0) b) := ⟨Nat.lt_of_lt_of_le HAT.out.1 HP3.out.2, fun V hV => HAT.out.2 V (HR3.out.2.2.2.trans (hV.mono HP3.out.2))⟩
        clear W3 HMX HPOS HAT
        refine (new_any 1048576 _).mono ?_
        rintro e w4 ⟨rfl, hw4⟩
        have M0 : Many (fun k => k < w3.heap.size) w3 w4 w3.heap.size [] [] 1048576 0 := by rw [hw4]; exact isM_start 1048576 (by decide) (by decide)
        clear hw4
        go_wp2_with fail
        refine (conew_any M0).mono ?_
        rintro e w5 ⟨cb, rs, rfl, hb, C0, hrl, B5⟩
        have hcb : w3.heap.size < cb := by have := M0.isM.lt; omega
        have HC5 : Hid (PS w3 rs cb b m st 0 0 0 w5) := .inl ⟨rfl, Nat.zero_le _, (fun j hj => by omega), ⟨C0⟩⟩
        clear C0 M0 B5 hb
        go_wp2_with fail
        go_loopw [12, 13, 14, 15] (fun v12 v13 v14 v15 wr => ∃ (p g i : Nat) (s : Int) (al : Option Addr) (ll cl : Nat), i ≤ p ∧ p + ll = n0 ∧ g ≤ m ∧ v12 = .slice al ll cl ∧ v13 = .int .i64 g ∧ v14 = .int .i64 s ∧ v15 = .int .i64 i ∧ Hid (AtW w3 k0 v12 (b.drop p)) ∧ Hid (PS w3 rs cb b m st p g s wr) ∧ Hid (s = 0 → reqQ (inF b p g) = rdNo 0)) (fun v12 _ _ _ _ => lenV v12)
        case atStart => exact ⟨0, 0, 0, 0, _, _, _, Nat.le_refl _, Nat.zero_add _, Nat.zero_le _, rfl, rfl, rfl, rfl, HA3, HC5, fun _ => rfl⟩
        case round =>
          obtain ⟨p, g, i, s, al, ll, cl, hi, hpl, hg, rfl, rfl, rfl, rfl, HT, HP, HZ⟩ := hrel
          clear HC5
          by_cases hll : 0 < ll
          · have k2 : (0 : Int) < ll := by omega
            have hln := HT.out.len
            have hn0 : n0 ≤ 3000 := HS.out.2.2.2
            by_cases hin : i < n1
            · have k3 : (i : Int) < n1 := by omega
              obtain ⟨bk, off, z, rfl, hbk, hz⟩ := HN1.out i hin
              have hz := cell_keepP hz ((HB3.out.trans (HP.out.bel.mono HB3.out.size)).block bk hbk)
              obtain ⟨d, hd, hbd0⟩ := and_mask z 1023 (by decide)
              have hbd : bits .and .i64 z 1023 = (d : Int) := hbd0
              obtain ⟨q, hqd⟩ : ∃ q, q = d % ll := ⟨_, rfl⟩
              have hml : q < ll := by rw [hqd]; exact Nat.mod_lt _ hll
              have hqm : (d : Int) % (ll : Int) = (q : Int) := by rw [hqd]; exact (Int.natCast_emod d ll).symm
              clear hqd
              clear hbd0
              go_wp2_with fail
              have hN : 1 + q ≤ ll := by omega
              have hN1 : 1 ≤ 1 + q := by omega
              have hbl : b.length = n0 := HS.out.2.2.1
              have hpN : p + (1 + q) ≤ b.length := by omega
              have HF := PS.feed (n := 1 + q) (v := .slice al (1 + q) cl) HP.out hpN HBL.out ((HT.out.take (m := 1 + q) (by rw [hln.1]; exact hN)).2 wr HP.out.bel) HT.out.1
              refine HF.mono ?_
              rintro e wq ⟨rfl, P6⟩
              have HP6 := hidC P6
              have HT6 : Hid (∀ a' c', ((cl = 1 + q ∧ a' = al ∧ c' = 0) ∨ (¬ cl = 1 + q ∧ a' = Option.map (fun x => x.add (1 + q)) al ∧ c' = cl - (1 + q))) → AtW w3 k0 (.slice a' (ll - (1 + q)) c') (b.drop (p + (1 + q)))) := fun a' c' hac => by
                have k := HT.out.cut (m := 1 + q) (a' := a') (by rw [hln.1]; exact hN) (fun h => by
                  rcases hac with ⟨e, -, -⟩ | ⟨-, e, -⟩
                  · omega
                  · exact e)
                rw [List.drop_drop] at k
                rcases hac with ⟨e, -, rfl⟩ | ⟨-, -, rfl⟩
                · rw [e, Nat.sub_self] at k; exact k
                · exact k
              have HPN := hidC hpN
              clear HT HP HZ HF P6 hpN hbl
              go_wp2_with fail
              all_goals
                first
                | (have HT7 := hidC (HT6.out al 0 (.inl ⟨h, rfl, rfl⟩)))
                | (have HT7 := hidC (HT6.out (Option.map (fun x => x.add (1 + q)) al) (cl - (1 + q)) (.inr ⟨h, rfl, rfl⟩)))
                clear HT6 h
                go_loopw [13, 14] (fun v13 v14 wx => ∃ (g : Nat) (s : Int), g ≤ m ∧ v13 = .int .i64 g ∧ v14 = .int .i64 s ∧ Hid (PS w3 rs cb b m st (p + (1 + q)) g s wx)) (fun v13 _ _ => m - (intOf v13).toNat)
                case atStart => exact ⟨g, s, hg, rfl, rfl, HP6⟩
                case round =>
                  obtain ⟨g2, s2, hg2, rfl, rfl, HP7⟩ := hrel
                  clear HP6
                  rcases HP7.out.next HPN.out HBL.out (HMV.out _ HP7.out.bel) HR3.out.2.2.1 HST.out with HQ | ⟨hs, hst0, HQ⟩ | ⟨rfl, hgm, hpos, hok, HQ⟩
                  · unfold noV at HQ
                    clear HP7
                    go_wp2_with fail
                    refine HQ.mono ?_
                    rintro e w8 ⟨fa8, ba8, fc8, bc8, rfl, P8, Z8⟩
                    have P8 := hidC (P8.below ((Below.refl _ _).alloc (Nat.le_refl _) (.cells #[.string ⟨#[]⟩, .string ⟨#[]⟩, .int .i64 0, .slice fa8 0 fc8, .slice ba8 0 bc8] 43)))
                    have Z8 := hidC Z8
                    clear HQ
                    go_wp2
                    go_roundw
                    case rel => exact ⟨p + (1 + q), g2, i + 1, s2, _, _, _, by omega, by omega, hg2, rfl, rfl, rfl, by go_num, HT7, P8, Z8⟩
                    case measure => simp [lenV]; omega

                  · subst hs
                    have hst1 : (st != 0) = true := by simp; omega
                    have Z8 : Hid (st = 0 → reqQ (inF b (p + (1 + q)) g2) = rdNo 0) := fun h => by omega
                    unfold noV at HQ
                    clear HP7
                    go_wp2_with fail
                    refine HQ.mono ?_
                    rintro e w8 ⟨fa8, ba8, fc8, bc8, rfl, P8⟩
                    have P8 := hidC (P8.below ((Below.refl _ _).alloc (Nat.le_refl _) (.cells #[.string ⟨#[]⟩, .string ⟨#[]⟩, .int .i64 0, .slice fa8 0 fc8, .slice ba8 0 bc8] 43)))
                    clear HQ
                    go_wp2
                    go_roundw
                    case rel => exact ⟨p + (1 + q), g2, i + 1, st, _, _, _, by omega, by omega, hg2, rfl, rfl, rfl, by go_num, HT7, P8, Z8⟩
                    case measure => simp [lenV]; omega

                  · have hgR : g2 < R.length := by have := HR3.out.1; omega
                    obtain ⟨x, hx⟩ : ∃ x, R[g2]? = some x := ⟨_, List.getElem?_eq_getElem hgR⟩
                    have hxr := HR3.out.2.1 g2 x hx
                    obtain ⟨⟨gx, offx, ea5, hc3⟩, -, -⟩ := HX.out w3 (Below.refl _ _) g2 x hx
                    obtain ⟨xr, xfa, xba, xfc, xbc⟩ := x
                    have hxr : xr = rqAt b g2 := hxr
                    subst hxr
                    have hgx : gx < w3.heap.size := cell_lt (x := ⟨gx, offx + g2 * 5 + 0, none⟩) (hc3 0 (by decide))
                    have HXG : Hid (∀ V, Below w3.heap.size w3 V → (∀ i, i < 5 → V.cell? ⟨gx, offx + g2 * 5 + i, none⟩ = (encX ⟨rqAt b g2, xfa, xba, xfc, xbc⟩)[i]?) ∧ Fds V.heap.size V (.slice xfa (rqAt b g2).fs.length xfc) (rqAt b g2).fs ∧ ∃ kb, kb < V.heap.size ∧ Src V kb (.slice xba (rqAt b g2).body.length xbc) (rqAt b g2).body) := fun V hV => by
                      obtain ⟨⟨g', off', e', hc'⟩, q2, q3⟩ := HX.out V hV g2 _ hx
                      rw [ea5] at e'
                      cases e'
                      exact ⟨hc', q2, q3⟩
                    subst ea5
                    have HPX : Hid (Below w3.heap.size w3 wr) := HP7.out.bel
                    clear HP7 hx hc3 hgR
                    unfold nxV encX at *
                    simp only at HQ HXG
                    obtain ⟨r, hr⟩ : ∃ r, r = rqAt b g2 := ⟨_, rfl⟩
                    rw [← hr] at HQ HXG
                    clear hr
                    obtain ⟨fl, hfl⟩ : ∃ fl, fl = r.fs.length := ⟨_, rfl⟩
                    obtain ⟨bl, hbl⟩ : ∃ bl, bl = r.body.length := ⟨_, rfl⟩
                    rw [← hfl, ← hbl] at HQ HXG
                    have HFL : Hid (fl = r.fs.length ∧ bl = r.body.length) := ⟨hfl, hbl⟩
                    clear hfl hbl
                    have k7 : decide (m ≤ g2) = false := decide_eq_false (by omega)
                    go_wp2_with fail
                    refine HQ.mono ?_
                    rintro e w8 ⟨fa8, ba8, fc8, bc8, rfl, OF, OB, PQ⟩
                    clear HQ
                    have U9 : Below w8.heap.size w8 (w8.alloc (.cells #[.string r.m, .string r.t, .int .i64 r.minor, .slice fa8 fl fc8, .slice ba8 bl bc8] 43)) := (Below.refl _ _).alloc (Nat.le_refl _) _
                    have B38 := PQ.c.bel
                    have B39 : Below w3.heap.size w3 (w8.alloc (.cells #[.string r.m, .string r.t, .int .i64 r.minor, .slice fa8 fl fc8, .slice ba8 bl bc8] 43)) := B38.trans (U9.mono B38.size)
                    have y := tblk_new w8 (.cells #[.string r.m, .string r.t, .int .i64 r.minor, .slice fa8 fl fc8, .slice ba8 bl bc8] 43)
                    have hs38 := B38.size
                    have hcb8 := PQ.c.lt
                    have HSC : Hid (∀ V : World, V.heap[w8.heap.size]? = (w8.alloc (.cells #[.string r.m, .string r.t, .int .i64 r.minor, .slice fa8 fl fc8, .slice ba8 bl bc8] 43)).heap[w8.heap.size]? → V.heap[gx]? = (w8.alloc (.cells #[.string r.m, .string r.t, .int .i64 r.minor, .slice fa8 fl fc8, .slice ba8 bl bc8] 43)).heap[gx]? → V.cell? ⟨w8.heap.size, 0, none⟩ = some (.string r.m) ∧ V.cell? ⟨w8.heap.size, 1, none⟩ = some (.string r.t) ∧ V.cell? ⟨w8.heap.size, 2, none⟩ = some (.int .i64 r.minor) ∧ V.cell? ⟨w8.heap.size, 3, none⟩ = some (.slice fa8 fl fc8) ∧ V.cell? ⟨w8.heap.size, 4, none⟩ = some (.slice ba8 bl bc8) ∧ V.cell? ⟨gx, offx + g2 * 5, none⟩ = some (.string r.m) ∧ V.cell? ⟨gx, offx + g2 * 5 + 1, none⟩ = some (.string r.t) ∧ V.cell? ⟨gx, offx + g2 * 5 + 2, none⟩ = some (.int .i64 r.minor) ∧ V.cell? ⟨gx, offx + g2 * 5 + 3, none⟩ = some (.slice xfa fl xfc) ∧ V.cell? ⟨gx, offx + g2 * 5 + 4, none⟩ = some (.slice xba bl xbc)) := fun V e1 e2 => by
                      have y' := e1.trans y
                      obtain ⟨q1, -, -⟩ := HXG.out _ B39
                      have q : ∀ i, i < 5 → V.cell? ⟨gx, offx + g2 * 5 + i, none⟩ = (#[.string r.m, .string r.t, .int .i64 r.minor, .slice xfa fl xfc, .slice xba bl xbc] : Array Value)[i]? := fun i hi => by
                        unfold World.cell?
                        rw [e2]
                        exact q1 i hi
                      exact ⟨tblk_cell y' rfl, tblk_cell y' rfl, tblk_cell y' rfl, tblk_cell y' rfl, tblk_cell y' rfl, q 0 (by decide), q 1 (by decide), q 2 (by decide), q 3 (by decide), q 4 (by decide)⟩
                    have HSQ : Hid (∀ V : World, Hid (Below (w8.alloc (.cells #[.string r.m, .string r.t, .int .i64 r.minor, .slice fa8 fl fc8, .slice ba8 bl bc8] 43)).heap.size (w8.alloc (.cells #[.string r.m, .string r.t, .int .i64 r.minor, .slice fa8 fl fc8, .slice ba8 bl bc8] 43)) V) → Calls Tryz.prog 17 #[.agg #[.string r.m, .string r.t, .int .i64 r.minor, .slice fa8 fl fc8, .slice ba8 bl bc8], .agg #[.string r.m, .string r.t, .int .i64 r.minor, .slice xfa fl xfc, .slice xba bl xbc]] V fun e w' => e = .returned (.bool true) ∧ Below V.heap.size V w') := fun V bV => by
                      have b8 : Below w8.heap.size w8 V := U9.trans (bV.out.mono U9.size)
                      have b3 : Below w3.heap.size w3 V := B39.trans (bV.out.mono B39.size)
                      obtain ⟨-, q2, kx, hkx, q3⟩ := HXG.out V b3
                      obtain ⟨ko, so, hko⟩ := (OB.keep b8).src
                      have f1 := (OF.keep b8).fds
                      rw [HFL.out.1] at q2 f1 ⊢
                      rw [HFL.out.2] at q3 so ⊢
                      exact samereq_eq r.m r.t r.minor r.fs r.body fa8 xfa ba8 xba fc8 xfc bc8 xbc ko kx V f1 q2 so (fun h => (hko h).2) q3 (fun _ => hkx)
                    have HSY : Hid (∀ V : World, Hid (Below (w8.alloc (.cells #[.string r.m, .string r.t, .int .i64 r.minor, .slice fa8 fl fc8, .slice ba8 bl bc8] 43)).heap.size (w8.alloc (.cells #[.string r.m, .string r.t, .int .i64 r.minor, .slice fa8 fl fc8, .slice ba8 bl bc8] 43)) V) → Calls Tryz.prog 21 #[.pointer (some ⟨cb, 0, none⟩), .slice none 0 0, .bool false] V fun e w' => e = .returned (.bool true) ∧ PB w3 rs cb w' (opS b (p + (1 + q)) (g2 + 1) false) ∧ w'.cell? ⟨w8.heap.size, 0, none⟩ = some (.string r.m) ∧ w'.cell? ⟨w8.heap.size, 1, none⟩ = some (.string r.t) ∧ w'.cell? ⟨w8.heap.size, 2, none⟩ = some (.int .i64 r.minor) ∧ w'.cell? ⟨w8.heap.size, 3, none⟩ = some (.slice fa8 fl fc8) ∧ w'.cell? ⟨w8.heap.size, 4, none⟩ = some (.slice ba8 bl bc8) ∧ w'.cell? ⟨gx, offx + g2 * 5, none⟩ = some (.string r.m) ∧ w'.cell? ⟨gx, offx + g2 * 5 + 1, none⟩ = some (.string r.t) ∧ w'.cell? ⟨gx, offx + g2 * 5 + 2, none⟩ = some (.int .i64 r.minor) ∧ w'.cell? ⟨gx, offx + g2 * 5 + 3, none⟩ = some (.slice xfa fl xfc) ∧ w'.cell? ⟨gx, offx + g2 * 5 + 4, none⟩ = some (.slice xba bl xbc)) := fun V bV => by
                      have b8 : Below w8.heap.size w8 V := U9.trans (bV.out.mono U9.size)
                      refine (PB.sayN PQ b8 HP3.out.1 (by omega)).mono ?_
                      rintro e w' ⟨rfl, q1, q2⟩
                      have hsz : w8.heap.size < V.heap.size := Nat.lt_of_lt_of_le (heap_lt y) bV.out.size
                      exact ⟨rfl, q1, HSC.out w' ((q2 _ (.inr ⟨Nat.le_refl _, hsz⟩) (by omega)).trans (bV.out.block _ (heap_lt y))) ((q2 gx (.inl hgx) (by omega)).trans (bV.out.block gx (by have := B39.size; omega)))⟩
                    have KS : Hid (Below (w8.alloc (.cells #[.string r.m, .string r.t, .int .i64 r.minor, .slice fa8 fl fc8, .slice ba8 bl bc8] 43)).heap.size (w8.alloc (.cells #[.string r.m, .string r.t, .int .i64 r.minor, .slice fa8 fl fc8, .slice ba8 bl bc8] 43)) (w8.alloc (.cells #[.string r.m, .string r.t, .int .i64 r.minor, .slice fa8 fl fc8, .slice ba8 bl bc8] 43)).drew) := (Below.refl _ _).drew
                    have HCC : Hid (∀ W : World, Hid (Below (w8.alloc (.cells #[.string r.m, .string r.t, .int .i64 r.minor, .slice fa8 fl fc8, .slice ba8 bl bc8] 43)).heap.size (w8.alloc (.cells #[.string r.m, .string r.t, .int .i64 r.minor, .slice fa8 fl fc8, .slice ba8 bl bc8] 43)) W) → W.cell? ⟨w8.heap.size, 0, none⟩ = some (.string r.m) ∧ W.cell? ⟨w8.heap.size, 1, none⟩ = some (.string r.t) ∧ W.cell? ⟨w8.heap.size, 2, none⟩ = some (.int .i64 r.minor) ∧ W.cell? ⟨w8.heap.size, 3, none⟩ = some (.slice fa8 fl fc8) ∧ W.cell? ⟨w8.heap.size, 4, none⟩ = some (.slice ba8 bl bc8) ∧ W.cell? ⟨gx, offx + g2 * 5, none⟩ = some (.string r.m) ∧ W.cell? ⟨gx, offx + g2 * 5 + 1, none⟩ = some (.string r.t) ∧ W.cell? ⟨gx, offx + g2 * 5 + 2, none⟩ = some (.int .i64 r.minor) ∧ W.cell? ⟨gx, offx + g2 * 5 + 3, none⟩ = some (.slice xfa fl xfc) ∧ W.cell? ⟨gx, offx + g2 * 5 + 4, none⟩ = some (.slice xba bl xbc)) := fun W bW => HSC.out W (bW.out.block _ (heap_lt y)) (bW.out.block gx (by have := B39.size; omega))
                    have SS := HCC.out _ KS
                    have S0 := HCC.out _ (Below.refl _ _)
                    clear OF OB PQ U9 B38 B39 y hs38 hcb8 HSC HXG hxr
                    go_wp2_with fail
                    generalize w8.alloc (.cells #[.string r.m, .string r.t, .int .i64 r.minor, .slice fa8 fl fc8, .slice ba8 bl bc8] 43) = w9 at *
                    have HNX : Hid (∀ W V : World, Hid (Below w9.heap.size w9 W) → Below W.heap.size W V → Hid (Below w9.heap.size w9 V)) := fun W V b c => b.out.trans (c.mono b.out.size)
                    go_region_held3 (fun W => W.cell? ⟨w8.heap.size, 0, none⟩ = some (.string r.m) ∧ W.cell? ⟨w8.heap.size, 1, none⟩ = some (.string r.t) ∧ W.cell? ⟨w8.heap.size, 2, none⟩ = some (.int .i64 r.minor) ∧ W.cell? ⟨w8.heap.size, 3, none⟩ = some (.slice fa8 fl fc8) ∧ W.cell? ⟨w8.heap.size, 4, none⟩ = some (.slice ba8 bl bc8) ∧ W.cell? ⟨gx, offx + g2 * 5, none⟩ = some (.string r.m) ∧ W.cell? ⟨gx, offx + g2 * 5 + 1, none⟩ = some (.string r.t) ∧ W.cell? ⟨gx, offx + g2 * 5 + 2, none⟩ = some (.int .i64 r.minor) ∧ W.cell? ⟨gx, offx + g2 * 5 + 3, none⟩ = some (.slice xfa fl xfc) ∧ W.cell? ⟨gx, offx + g2 * 5 + 4, none⟩ = some (.slice xba bl xbc)) (first | exact SS | exact S0 | go_keep) (first
                      | (go_simp; go_at_call 17; refine Calls.mono (HSQ.out _ KS) ?_; rintro e W1 ⟨rfl, B1⟩; have KS := HNX.out _ _ KS B1; have SS := HCC.out _ KS; clear HSQ)
                      | (go_simp; go_at_call 21; refine Calls.mono (HSY.out _ KS) ?_; rintro e W2 ⟨rfl, P2, SS⟩; clear HSY))
                    go_wp2
                    go_roundw
                    case rel => exact ⟨g2 + 1, 0, by omega, by go_num, rfl, hidC (.inl ⟨rfl, hpos, hok, P2⟩)⟩
                    case measure => simp [intOf]; omega
            · have k3 : ¬ (i : Int) < n1 := by omega
              go_wp2_with fail
              have hN : ll ≤ ll := by omega
              have hN1 : 1 ≤ ll := by omega
              have hbl : b.length = n0 := HS.out.2.2.1
              have hpN : p + (ll) ≤ b.length := by omega
              have HF := PS.feed (n := ll) (v := .slice al (ll) cl) HP.out hpN HBL.out ((HT.out.take (m := ll) (by rw [hln.1]; exact hN)).2 wr HP.out.bel) HT.out.1
              refine HF.mono ?_
              rintro e wq ⟨rfl, P6⟩
              have HP6 := hidC P6
              have HT6 : Hid (∀ a' c', ((cl = ll ∧ a' = al ∧ c' = 0) ∨ (¬ cl = ll ∧ a' = Option.map (fun x => x.add (ll)) al ∧ c' = cl - (ll))) → AtW w3 k0 (.slice a' (0) c') (b.drop (p + (ll)))) := fun a' c' hac => by
                have k := HT.out.cut (m := ll) (a' := a') (by rw [hln.1]; exact hN) (fun h => by
                  rcases hac with ⟨e, -, -⟩ | ⟨-, e, -⟩
                  · omega
                  · exact e)
                rw [List.drop_drop] at k
                rcases hac with ⟨e, -, rfl⟩ | ⟨-, -, rfl⟩
                · rw [e, Nat.sub_self] at k; exact k
                · rw [Nat.sub_self] at k; exact k
              have HPN := hidC hpN
              clear HT HP HZ HF P6 hpN hbl
              go_wp2_with fail
              all_goals
                first
                | (have HT7 := hidC (HT6.out al 0 (.inl ⟨h, rfl, rfl⟩)))
                | (have HT7 := hidC (HT6.out (Option.map (fun x => x.add (ll)) al) (cl - (ll)) (.inr ⟨h, rfl, rfl⟩)))
                clear HT6 h
                go_loopw [13, 14] (fun v13 v14 wx => ∃ (g : Nat) (s : Int), g ≤ m ∧ v13 = .int .i64 g ∧ v14 = .int .i64 s ∧ Hid (PS w3 rs cb b m st (p + (ll)) g s wx)) (fun v13 _ _ => m - (intOf v13).toNat)
                case atStart => exact ⟨g, s, hg, rfl, rfl, HP6⟩
                case round =>
                  obtain ⟨g2, s2, hg2, rfl, rfl, HP7⟩ := hrel
                  clear HP6
                  rcases HP7.out.next HPN.out HBL.out (HMV.out _ HP7.out.bel) HR3.out.2.2.1 HST.out with HQ | ⟨hs, hst0, HQ⟩ | ⟨rfl, hgm, hpos, hok, HQ⟩
                  · unfold noV at HQ
                    clear HP7
                    go_wp2_with fail
                    refine HQ.mono ?_
                    rintro e w8 ⟨fa8, ba8, fc8, bc8, rfl, P8, Z8⟩
                    have P8 := hidC (P8.below ((Below.refl _ _).alloc (Nat.le_refl _) (.cells #[.string ⟨#[]⟩, .string ⟨#[]⟩, .int .i64 0, .slice fa8 0 fc8, .slice ba8 0 bc8] 43)))
                    have Z8 := hidC Z8
                    clear HQ
                    go_wp2
                    go_roundw
                    case rel => exact ⟨p + (ll), g2, i + 1, s2, _, _, _, by omega, by omega, hg2, rfl, rfl, rfl, by go_num, HT7, P8, Z8⟩
                    case measure => simp [lenV]; omega

                  · subst hs
                    have hst1 : (st != 0) = true := by simp; omega
                    have Z8 : Hid (st = 0 → reqQ (inF b (p + (ll)) g2) = rdNo 0) := fun h => by omega
                    unfold noV at HQ
                    clear HP7
                    go_wp2_with fail
                    refine HQ.mono ?_
                    rintro e w8 ⟨fa8, ba8, fc8, bc8, rfl, P8⟩
                    have P8 := hidC (P8.below ((Below.refl _ _).alloc (Nat.le_refl _) (.cells #[.string ⟨#[]⟩, .string ⟨#[]⟩, .int .i64 0, .slice fa8 0 fc8, .slice ba8 0 bc8] 43)))
                    clear HQ
                    go_wp2
                    go_roundw
                    case rel => exact ⟨p + (ll), g2, i + 1, st, _, _, _, by omega, by omega, hg2, rfl, rfl, rfl, by go_num, HT7, P8, Z8⟩
                    case measure => simp [lenV]; omega

                  · have hgR : g2 < R.length := by have := HR3.out.1; omega
                    obtain ⟨x, hx⟩ : ∃ x, R[g2]? = some x := ⟨_, List.getElem?_eq_getElem hgR⟩
                    have hxr := HR3.out.2.1 g2 x hx
                    obtain ⟨⟨gx, offx, ea5, hc3⟩, -, -⟩ := HX.out w3 (Below.refl _ _) g2 x hx
                    obtain ⟨xr, xfa, xba, xfc, xbc⟩ := x
                    have hxr : xr = rqAt b g2 := hxr
                    subst hxr
                    have hgx : gx < w3.heap.size := cell_lt (x := ⟨gx, offx + g2 * 5 + 0, none⟩) (hc3 0 (by decide))
                    have HXG : Hid (∀ V, Below w3.heap.size w3 V → (∀ i, i < 5 → V.cell? ⟨gx, offx + g2 * 5 + i, none⟩ = (encX ⟨rqAt b g2, xfa, xba, xfc, xbc⟩)[i]?) ∧ Fds V.heap.size V (.slice xfa (rqAt b g2).fs.length xfc) (rqAt b g2).fs ∧ ∃ kb, kb < V.heap.size ∧ Src V kb (.slice xba (rqAt b g2).body.length xbc) (rqAt b g2).body) := fun V hV => by
                      obtain ⟨⟨g', off', e', hc'⟩, q2, q3⟩ := HX.out V hV g2 _ hx
                      rw [ea5] at e'
                      cases e'
                      exact ⟨hc', q2, q3⟩
                    subst ea5
                    have HPX : Hid (Below w3.heap.size w3 wr) := HP7.out.bel
                    clear HP7 hx hc3 hgR
                    unfold nxV encX at *
                    simp only at HQ HXG
                    obtain ⟨r, hr⟩ : ∃ r, r = rqAt b g2 := ⟨_, rfl⟩
                    rw [← hr] at HQ HXG
                    clear hr
                    obtain ⟨fl, hfl⟩ : ∃ fl, fl = r.fs.length := ⟨_, rfl⟩
                    obtain ⟨bl, hbl⟩ : ∃ bl, bl = r.body.length := ⟨_, rfl⟩
                    rw [← hfl, ← hbl] at HQ HXG
                    have HFL : Hid (fl = r.fs.length ∧ bl = r.body.length) := ⟨hfl, hbl⟩
                    clear hfl hbl
                    have k7 : decide (m ≤ g2) = false := decide_eq_false (by omega)
                    go_wp2_with fail
                    refine HQ.mono ?_
                    rintro e w8 ⟨fa8, ba8, fc8, bc8, rfl, OF, OB, PQ⟩
                    clear HQ
                    have U9 : Below w8.heap.size w8 (w8.alloc (.cells #[.string r.m, .string r.t, .int .i64 r.minor, .slice fa8 fl fc8, .slice ba8 bl bc8] 43)) := (Below.refl _ _).alloc (Nat.le_refl _) _
                    have B38 := PQ.c.bel
                    have B39 : Below w3.heap.size w3 (w8.alloc (.cells #[.string r.m, .string r.t, .int .i64 r.minor, .slice fa8 fl fc8, .slice ba8 bl bc8] 43)) := B38.trans (U9.mono B38.size)
                    have y := tblk_new w8 (.cells #[.string r.m, .string r.t, .int .i64 r.minor, .slice fa8 fl fc8, .slice ba8 bl bc8] 43)
                    have hs38 := B38.size
                    have hcb8 := PQ.c.lt
                    have HSC : Hid (∀ V : World, V.heap[w8.heap.size]? = (w8.alloc (.cells #[.string r.m, .string r.t, .int .i64 r.minor, .slice fa8 fl fc8, .slice ba8 bl bc8] 43)).heap[w8.heap.size]? → V.heap[gx]? = (w8.alloc (.cells #[.string r.m, .string r.t, .int .i64 r.minor, .slice fa8 fl fc8, .slice ba8 bl bc8] 43)).heap[gx]? → V.cell? ⟨w8.heap.size, 0, none⟩ = some (.string r.m) ∧ V.cell? ⟨w8.heap.size, 1, none⟩ = some (.string r.t) ∧ V.cell? ⟨w8.heap.size, 2, none⟩ = some (.int .i64 r.minor) ∧ V.cell? ⟨w8.heap.size, 3, none⟩ = some (.slice fa8 fl fc8) ∧ V.cell? ⟨w8.heap.size, 4, none⟩ = some (.slice ba8 bl bc8) ∧ V.cell? ⟨gx, offx + g2 * 5, none⟩ = some (.string r.m) ∧ V.cell? ⟨gx, offx + g2 * 5 + 1, none⟩ = some (.string r.t) ∧ V.cell? ⟨gx, offx + g2 * 5 + 2, none⟩ = some (.int .i64 r.minor) ∧ V.cell? ⟨gx, offx + g2 * 5 + 3, none⟩ = some (.slice xfa fl xfc) ∧ V.cell? ⟨gx, offx + g2 * 5 + 4, none⟩ = some (.slice xba bl xbc)) := fun V e1 e2 => by
                      have y' := e1.trans y
                      obtain ⟨q1, -, -⟩ := HXG.out _ B39
                      have q : ∀ i, i < 5 → V.cell? ⟨gx, offx + g2 * 5 + i, none⟩ = (#[.string r.m, .string r.t, .int .i64 r.minor, .slice xfa fl xfc, .slice xba bl xbc] : Array Value)[i]? := fun i hi => by
                        unfold World.cell?
                        rw [e2]
                        exact q1 i hi
                      exact ⟨tblk_cell y' rfl, tblk_cell y' rfl, tblk_cell y' rfl, tblk_cell y' rfl, tblk_cell y' rfl, q 0 (by decide), q 1 (by decide), q 2 (by decide), q 3 (by decide), q 4 (by decide)⟩
                    have HSQ : Hid (∀ V : World, Hid (Below (w8.alloc (.cells #[.string r.m, .string r.t, .int .i64 r.minor, .slice fa8 fl fc8, .slice ba8 bl bc8] 43)).heap.size (w8.alloc (.cells #[.string r.m, .string r.t, .int .i64 r.minor, .slice fa8 fl fc8, .slice ba8 bl bc8] 43)) V) → Calls Tryz.prog 17 #[.agg #[.string r.m, .string r.t, .int .i64 r.minor, .slice fa8 fl fc8, .slice ba8 bl bc8], .agg #[.string r.m, .string r.t, .int .i64 r.minor, .slice xfa fl xfc, .slice xba bl xbc]] V fun e w' => e = .returned (.bool true) ∧ Below V.heap.size V w') := fun V bV => by
                      have b8 : Below w8.heap.size w8 V := U9.trans (bV.out.mono U9.size)
                      have b3 : Below w3.heap.size w3 V := B39.trans (bV.out.mono B39.size)
                      obtain ⟨-, q2, kx, hkx, q3⟩ := HXG.out V b3
                      obtain ⟨ko, so, hko⟩ := (OB.keep b8).src
                      have f1 := (OF.keep b8).fds
                      rw [HFL.out.1] at q2 f1 ⊢
                      rw [HFL.out.2] at q3 so ⊢
                      exact samereq_eq r.m r.t r.minor r.fs r.body fa8 xfa ba8 xba fc8 xfc bc8 xbc ko kx V f1 q2 so (fun h => (hko h).2) q3 (fun _ => hkx)
                    have HSY : Hid (∀ V : World, Hid (Below (w8.alloc (.cells #[.string r.m, .string r.t, .int .i64 r.minor, .slice fa8 fl fc8, .slice ba8 bl bc8] 43)).heap.size (w8.alloc (.cells #[.string r.m, .string r.t, .int .i64 r.minor, .slice fa8 fl fc8, .slice ba8 bl bc8] 43)) V) → Calls Tryz.prog 21 #[.pointer (some ⟨cb, 0, none⟩), .slice none 0 0, .bool false] V fun e w' => e = .returned (.bool true) ∧ PB w3 rs cb w' (opS b (p + (ll)) (g2 + 1) false) ∧ w'.cell? ⟨w8.heap.size, 0, none⟩ = some (.string r.m) ∧ w'.cell? ⟨w8.heap.size, 1, none⟩ = some (.string r.t) ∧ w'.cell? ⟨w8.heap.size, 2, none⟩ = some (.int .i64 r.minor) ∧ w'.cell? ⟨w8.heap.size, 3, none⟩ = some (.slice fa8 fl fc8) ∧ w'.cell? ⟨w8.heap.size, 4, none⟩ = some (.slice ba8 bl bc8) ∧ w'.cell? ⟨gx, offx + g2 * 5, none⟩ = some (.string r.m) ∧ w'.cell? ⟨gx, offx + g2 * 5 + 1, none⟩ = some (.string r.t) ∧ w'.cell? ⟨gx, offx + g2 * 5 + 2, none⟩ = some (.int .i64 r.minor) ∧ w'.cell? ⟨gx, offx + g2 * 5 + 3, none⟩ = some (.slice xfa fl xfc) ∧ w'.cell? ⟨gx, offx + g2 * 5 + 4, none⟩ = some (.slice xba bl xbc)) := fun V bV => by
                      have b8 : Below w8.heap.size w8 V := U9.trans (bV.out.mono U9.size)
                      refine (PB.sayN PQ b8 HP3.out.1 (by omega)).mono ?_
                      rintro e w' ⟨rfl, q1, q2⟩
                      have hsz : w8.heap.size < V.heap.size := Nat.lt_of_lt_of_le (heap_lt y) bV.out.size
                      exact ⟨rfl, q1, HSC.out w' ((q2 _ (.inr ⟨Nat.le_refl _, hsz⟩) (by omega)).trans (bV.out.block _ (heap_lt y))) ((q2 gx (.inl hgx) (by omega)).trans (bV.out.block gx (by have := B39.size; omega)))⟩
                    have KS : Hid (Below (w8.alloc (.cells #[.string r.m, .string r.t, .int .i64 r.minor, .slice fa8 fl fc8, .slice ba8 bl bc8] 43)).heap.size (w8.alloc (.cells #[.string r.m, .string r.t, .int .i64 r.minor, .slice fa8 fl fc8, .slice ba8 bl bc8] 43)) (w8.alloc (.cells #[.string r.m, .string r.t, .int .i64 r.minor, .slice fa8 fl fc8, .slice ba8 bl bc8] 43)).drew) := (Below.refl _ _).drew
                    have HCC : Hid (∀ W : World, Hid (Below (w8.alloc (.cells #[.string r.m, .string r.t, .int .i64 r.minor, .slice fa8 fl fc8, .slice ba8 bl bc8] 43)).heap.size (w8.alloc (.cells #[.string r.m, .string r.t, .int .i64 r.minor, .slice fa8 fl fc8, .slice ba8 bl bc8] 43)) W) → W.cell? ⟨w8.heap.size, 0, none⟩ = some (.string r.m) ∧ W.cell? ⟨w8.heap.size, 1, none⟩ = some (.string r.t) ∧ W.cell? ⟨w8.heap.size, 2, none⟩ = some (.int .i64 r.minor) ∧ W.cell? ⟨w8.heap.size, 3, none⟩ = some (.slice fa8 fl fc8) ∧ W.cell? ⟨w8.heap.size, 4, none⟩ = some (.slice ba8 bl bc8) ∧ W.cell? ⟨gx, offx + g2 * 5, none⟩ = some (.string r.m) ∧ W.cell? ⟨gx, offx + g2 * 5 + 1, none⟩ = some (.string r.t) ∧ W.cell? ⟨gx, offx + g2 * 5 + 2, none⟩ = some (.int .i64 r.minor) ∧ W.cell? ⟨gx, offx + g2 * 5 + 3, none⟩ = some (.slice xfa fl xfc) ∧ W.cell? ⟨gx, offx + g2 * 5 + 4, none⟩ = some (.slice xba bl xbc)) := fun W bW => HSC.out W (bW.out.block _ (heap_lt y)) (bW.out.block gx (by have := B39.size; omega))
                    have SS := HCC.out _ KS
                    have S0 := HCC.out _ (Below.refl _ _)
                    clear OF OB PQ U9 B38 B39 y hs38 hcb8 HSC HXG hxr
                    go_wp2_with fail
                    generalize w8.alloc (.cells #[.string r.m, .string r.t, .int .i64 r.minor, .slice fa8 fl fc8, .slice ba8 bl bc8] 43) = w9 at *
                    have HNX : Hid (∀ W V : World, Hid (Below w9.heap.size w9 W) → Below W.heap.size W V → Hid (Below w9.heap.size w9 V)) := fun W V b c => b.out.trans (c.mono b.out.size)
                    go_region_held3 (fun W => W.cell? ⟨w8.heap.size, 0, none⟩ = some (.string r.m) ∧ W.cell? ⟨w8.heap.size, 1, none⟩ = some (.string r.t) ∧ W.cell? ⟨w8.heap.size, 2, none⟩ = some (.int .i64 r.minor) ∧ W.cell? ⟨w8.heap.size, 3, none⟩ = some (.slice fa8 fl fc8) ∧ W.cell? ⟨w8.heap.size, 4, none⟩ = some (.slice ba8 bl bc8) ∧ W.cell? ⟨gx, offx + g2 * 5, none⟩ = some (.string r.m) ∧ W.cell? ⟨gx, offx + g2 * 5 + 1, none⟩ = some (.string r.t) ∧ W.cell? ⟨gx, offx + g2 * 5 + 2, none⟩ = some (.int .i64 r.minor) ∧ W.cell? ⟨gx, offx + g2 * 5 + 3, none⟩ = some (.slice xfa fl xfc) ∧ W.cell? ⟨gx, offx + g2 * 5 + 4, none⟩ = some (.slice xba bl xbc)) (first | exact SS | exact S0 | go_keep) (first
                      | (go_simp; go_at_call 17; refine Calls.mono (HSQ.out _ KS) ?_; rintro e W1 ⟨rfl, B1⟩; have KS := HNX.out _ _ KS B1; have SS := HCC.out _ KS; clear HSQ)
                      | (go_simp; go_at_call 21; refine Calls.mono (HSY.out _ KS) ?_; rintro e W2 ⟨rfl, P2, SS⟩; clear HSY))
                    go_wp2
                    go_roundw
                    case rel => exact ⟨g2 + 1, 0, by omega, by go_num, rfl, hidC (.inl ⟨rfl, hpos, hok, P2⟩)⟩
                    case measure => simp [intOf]; omega
          · obtain rfl : ll = 0 := by omega
            have hpb : p = b.length := by have := HS.out.2.2.1; omega
            subst hpb
            obtain ⟨rfl, rfl, t, hC, hcl⟩ := HP.out.fin HZ.out HR3.out.2.2.1 HST.out
            have HCL := coclosing_any hC.c
            rw [hcl] at HCL
            have HE : Hid (Below w.heap.size w wr) := HB3.out.trans (HP.out.bel.mono HB3.out.size)
            clear HN1 HT HP HZ hC hcl HX HR3
            by_cases hs0 : s = 0
            · rw [decide_eq_true hs0] at HCL
              have hs1 : (s != 0) = false := by simpa using hs0
              go_wp2_with fail
              refine HCL.mono ?_
              rintro e w' ⟨rfl, hw⟩
              rw [hw]
              clear hw HCL
              go_wp2
              go_ret
              exact ⟨rfl, HE.out⟩
            · rw [decide_eq_false hs0] at HCL
              have hs1 : (s != 0) = true := by simpa using hs0
              go_wp2_with fail
              refine HCL.mono ?_
              rintro e w' ⟨rfl, hw⟩
              rw [hw]
              clear hw HCL
              go_wp2
              go_ret
              exact ⟨rfl, HE.out⟩
      · have hnl : (rqAt b m).n ≤ l6 := by
          rw [← hl6.1]
          rcases reqQ_three (b.drop (posF b m)) with e | ⟨s, e, _⟩ | ⟨_, _, _, _, _, n, e, k, h⟩
          · unfold rqAt; rw [e]; exact Nat.zero_le _
          · unfold rqAt; rw [e]; exact Nat.zero_le _
          · unfold rqAt; rw [e]; exact h
        have hst : (rqAt b m).st = 0 := by
          rcases reqQ_three (b.drop (posF b m)) with e | ⟨s, e, _⟩ | ⟨_, _, _, _, _, n, e, k, h⟩
          · unfold rqAt; rw [e]; rfl
          · exfalso; unfold rqAt at hn; rw [e] at hn; exact hn rfl
          · unfold rqAt; rw [e]
        unfold ReqR rdV at HQ
        obtain ⟨qn, hqn⟩ : ∃ qn, (rqAt b m).n = qn := ⟨_, rfl⟩
        rw [hst, hqn] at HQ
        rw [hqn] at hnl hn
        have HQN : Hid ((rqAt b m).n = qn) := hqn
        have hn2 : ((qn : Int) == 0) = false := by simpa using hn
        obtain ⟨r, hr⟩ : ∃ r, r = rqAt b m := ⟨_, rfl⟩
        rw [← hr] at HQ
        have HR : Hid (r = rqAt b m) := hr
        clear hr hqn
        go_wp2_with fail
        refine HQ.mono ?_
        rintro e w2 ⟨fa, ba, fc, bc, rfl, OF, OB, B2⟩
        obtain ⟨fl, hfl⟩ : ∃ fl, r.fs.length = fl := ⟨_, rfl⟩
        obtain ⟨bl, hbl⟩ : ∃ bl, r.body.length = bl := ⟨_, rfl⟩
        have HNX := W1.next (w3 := w2.alloc (.cells #[.string r.m, .string r.t, .int .i64 r.minor, .slice fa fl fc, .slice ba bl bc] 43)) (fa := fa) (ba := ba) (fc := fc) (bc := bc) HW.out B2 ((Below.refl _ _).alloc (Nat.le_refl _) _) (by rw [← HR.out]; exact OF) (by rw [← HR.out]; exact OB) (by rw [HQN.out]; exact hn) (by omega) HPOS.out
        rw [← HR.out] at HNX
        unfold encX at HNX
        simp only at HNX
        rw [hfl, hbl] at HNX ⊢
        rw [show (w2.alloc (.cells #[.string r.m, .string r.t, .int .i64 r.minor, .slice fa fl fc, .slice ba bl bc] 43)).heap.size = w2.heap.size + 1 by simp] at HNX
        obtain ⟨v9, w9, r9, W9⟩ := HNX
        obtain ⟨a9, c9, e9, -⟩ := W9.ow.rd EX
        have hl9 := W9.len
        rw [hl9] at e9
        subst e9
        have y := tblk_new w2 (.cells #[.string r.m, .string r.t, .int .i64 r.minor, .slice fa fl fc, .slice ba bl bc] 43)
        have y0 := tblk_cell (i := 0) y rfl
        have y1 := tblk_cell (i := 1) y rfl
        have y2 := tblk_cell (i := 2) y rfl
        have y3 := tblk_cell (i := 3) y rfl
        have y4 := tblk_cell (i := 4) y rfl
        have R9 := hidC r9
        have W9 := hidC W9
        clear HQ OF OB B2 hfl hbl r9 hl9 y HW
        go_wp2_with (at_builtin; refine wpList_append_run2 rfl _ _ 64 64 rfl _ _ _ w9 rfl rfl R9.out ?_)
        exact ⟨⟨m + 1, _, a9, _, c9, _, _, 0, by omega, rfl, rfl, rfl, W9, by
          have k := HT.out.cut (m := qn) (a' := if c6 = qn then a6 else Option.map (fun x => x.add qn) a6) (by omega) (fun h => if_neg (by omega))
          rw [List.drop_drop] at k
          rw [posF_succ, HQN.out]
          exact k⟩, by simp [lenV]; omega⟩
    · have hm3 : m = 50 := by omega
      have HE : Hid (Below w.heap.size w wr) := HB1.out.trans (HW.out.bel.mono HB1.out.size)
      subst hm3
      clear HW HT HN1
      go_wp2
      go_ret
      exact ⟨rfl, HE.out⟩
end Go.Proofs.YtemmmdhmkegaaaaGreatDoor

/- Whatever the bytes and the cuts, ConnPieces answers true: however bytes come in pieces, the requests are the same, in their order, and so is the status behind them; no condition. -/
namespace Go.Proofs.YtemmmdhmkegaaaaGreatDoor.connPieces
open Go.ChangeShapes Go.WideShapes Go.ChangeAt Go.RowKit
open Go.ChangeMaps (open_string shut_string)
set_option linter.unusedVariables false

theorem own : ownKnob Tryz.prog.godebug = none := by kernel_rfl
theorem laidOut : laidOutB Tryz.prog = true := by kernel_rfl
theorem maxL_of {W : World} (hsh : W.ShapedOpen Tryz.prog) : MaxL W :=
  cell_of_shapedOpen_int (P := Tryz.prog) (g := 0) (t := 3) (zero := #[.int .i64 0]) hsh (of_decide_eq_true (by kernel_rfl)) (by kernel_rfl) rfl (by kernel_rfl) (by kernel_rfl) Tryz.underlying3
noncomputable def laidWorld (os : Os) : World := World.laidAll Tryz.prog os Rows.connPiecesRow.laid
theorem laid_met (os : Os) : laidMetH Tryz.prog Rows.connPiecesRow.laid ((laidWorld os).forCall (fun _ _ => 0) ⟨#[], #[.slice none 0 0, .slice none 0 0], []⟩).memory := by
  rw [MakeChecks.laidMetH_plain _ _ _ (by kernel_rfl)]
  exact laidMet_laidAll _ (by kernel_rfl) (by kernel_rfl)
set_option maxRecDepth 100000 in
theorem lifted (os : Os) (started : os.Started) (H : Type) (enc : TypeId × Value → H) (F : Stop.Interp) :
    ReturnsInHanded {} Tryz.checked os 4 .any ((OpenSpec.ofChange Rows.connPiecesSpec).preRow enc Tryz.prog Tryz.f4 Rows.connPiecesRow.domain false Rows.connPiecesRow.laid) (((OpenSpec.ofChange Rows.connPiecesSpec).at F).post enc Tryz.prog Tryz.f4 false true false false) := by
  obtain ⟨places, hx⟩ := (⟨[], by kernel_rfl⟩ : ∃ places, DataW.whole enc Tryz.prog ((laidWorld os).forCall (fun _ _ => 0) ⟨#[], #[.slice none 0 0, .slice none 0 0], []⟩).memory Tryz.f4.params.toList Rows.connPiecesSpec.vars false (#[.slice none 0 0, .slice none 0 0] : Array Value).toList 8 = some ([.nil, .nil], [], places))
  refine returnsInHanded_of_row (C := Tryz.checked) (s := OpenSpec.ofChange Rows.connPiecesSpec) own started (by kernel_rfl) Tryz.func4
    (witness_row_atRef (enc := enc) (C := Tryz.checked) false (laidWorld os) #[.slice none 0 0, .slice none 0 0] rfl (by kernel_rfl) (by kernel_rfl) (by kernel_rfl)
      (OpenSpec.preRow_of_cond 8 hx (by kernel_rfl) (fun k hk => by cases hk) (by kernel_rfl) (laid_met os))) ?_
  intro W base args ds gs before hval0 hW _ hcond hsz hlaid hsh _
  have hM := maxL_of hsh
  clear hsh
  have hval : ∀ (j : Nat) t v, Tryz.f4.params[j]? = some t → args[j]? = some v → Value.okWide Tryz.prog W .any base t v := hval0
  have hW' := hW
  obtain ⟨p, q, hA0, hV, rfl, hfz, hnd⟩ := hW
  have hA : DataW.TrodAll enc Tryz.prog W 0 (fun _ => true) true Tryz.f4.params.toList args.toList ds p := hA0
  rw [Tryz.params4] at hA hval
  obtain ⟨v0, vs0, d0, ds0, p0, q0, hargs, rfl, rfl, h0, r0⟩ := trodAll_cons hA
  obtain ⟨v1, vs1, d1, ds1, p1, q1, rfl, rfl, rfl, h1, r1⟩ := trodAll_cons r0
  obtain ⟨rfl, rfl, rfl⟩ := trodAll_nil r1
  obtain rfl : args = #[v0, v1] := by cases args; simp_all
  obtain ⟨rfl, rfl⟩ := trodVars_none hV
  obtain ⟨a0, len0, cap0, rfl⟩ := okWide_slice Tryz.underlying31 (hval 0 31 v0 rfl rfl)
  have k0 := h0
  have lt0 : ∀ x ∈ p0, x.block < W.heap.size := by obtain ⟨m, hm⟩ := k0; exact DataW.trod_lt m _ _ _ hm
  obtain ⟨kb0, b0, w0, hk0, hn0⟩ := open_bytes h0
  obtain ⟨a1, len1, cap1, rfl⟩ := okWide_slice Tryz.underlying63 (hval 1 63 v1 rfl rfl)
  have k1 := h1
  have lt1 : ∀ x ∈ p1, x.block < W.heap.size := by obtain ⟨m, hm⟩ := k1; exact DataW.trod_lt m _ _ _ hm
  have w1 := open_nums h1
  clear hA0 hval0
  refine (pieces18_walk kb0 len0 cap0 a0 b0 a1 len1 cap1 W w0 hk0 w1 hM).mono fun e W' ⟨he, bel⟩ => ?_
  subst he
  exact ⟨_, rfl, _, _, _, [], _, [], hW', trodAll_mk1 (shut_bool Tryz.underlying4 _), (trodAll_cons_mk (Below.trod laidOut (by kernel_rfl) (of_decide_eq_true (by kernel_rfl)) k0 bel lt0) (trodAll_cons_mk (Below.trod laidOut (by kernel_rfl) (of_decide_eq_true (by kernel_rfl)) k1 bel lt1) trodAll_mk0)), rfl, bel.frame _, fun h => by cases h⟩

theorem over : Rows.ConnPiecesSaid :=
  OpenClaim.holds_of_cond 4 Tryz.f4 rfl rfl rfl rfl rfl rfl rfl ⟨rfl, rfl, rfl, rfl, rfl⟩ rfl rfl rfl rfl rfl (by kernel_rfl) Tryz.func4 (by kernel_rfl)
    (of_decide_eq_true (by kernel_rfl)) (by unfold Func.isWrapper; first | (rw [if_pos (by decide +kernel)]; kernel_rfl) | (rw [if_neg (by decide +kernel)]; exact ⟨rfl, rfl⟩))
    (fun os started H enc _ F => by rw [OpenClaim.pre_eq_preRow]; exact lifted os started H enc F)

end Go.Proofs.YtemmmdhmkegaaaaGreatDoor.connPieces
namespace Go.Proofs.YtemmmdhmkegaaaaGreatDoor
/-- The statement: the tied card. -/
theorem connPieces_holds : Rows.ConnPiecesCardSaid :=
  Claim7.holds_tied_plain_at .later [] _ _ _ _
    connPieces.over (fun _ h => by cases h) (by kernel_rfl) (fun _ h => by cases h) connPieces_row_tie rfl ⟨rfl, rfl⟩ (by kernel_rfl) rfl
    (fun f fn hf hfn => by
      obtain rfl : f = 4 := Option.some.inj ((show Tryz.prog.funcNamed "tollbar/tollbarlaw18.ConnPieces" = some 4 by kernel_rfl).symm.trans hf) |>.symm
      obtain rfl : fn = Tryz.f4 := (Option.some.inj (Tryz.func4.symm.trans hfn)).symm
      exact ⟨by kernel_rfl, fun j t ht => by
        rw [Tryz.params4] at ht
        have hm : t ∈ [31, 63] := by simpa using Array.mem_of_getElem? ht
        have hall : ([31, 63].all fun u => !Tryz.prog.wantsStandIn u) = true := by kernel_rfl
        exact (show Tryz.prog.wantsStandIn t = false by simpa using List.all_eq_true.1 hall t hm)⟩)
    (by kernel_rfl)
#print axioms connPieces_holds
end Go.Proofs.YtemmmdhmkegaaaaGreatDoor
