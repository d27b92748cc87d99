/- Whatever the two numbers and the bytes, ConnWaits answers true: whoever waits to be told to go on is told once for each request; no condition. -/
import Derived.Test.YtemmmdhmkegaaaaGreatDoorCb5
import Derived.Test.YtemmmdhmkegaaaaGreatDoorCb2
import Derived.Lib.Strings
import Derived.Test.YtemmmdhmkegaaaaGreatDoorRows
import Derived.Test.YtemmmdhmkegaaaaGreatDoorCards
import Derived.Test.YtemmmdhmkegaaaaGreatDoorTie
import Derived.WalkKit
import Derived.ProofKit
import Derived.OpenShut
import Derived.ShutString
import Derived.ChangeOld
import Derived.Below
import Derived.LaidMore
import Derived.Lay
import Derived.Stop.Joined
import Derived.SevenTiedAt
import Derived.Shelf.Vars
import Derived.Deep.DeepHandedRow
import Derived.Deep.DeepWitnessRowRef
/- ConnCloses: the walk. -/
namespace Go.Proofs.YtemmmdhmkegaaaaGreatDoor
open Go.RowKit
set_option linter.unusedVariables false

theorem MaxL.pos {w : World} (h : MaxL w) : 0 < w.heap.size := by
  obtain ⟨m, h⟩ := h
  rcases Nat.eq_zero_or_pos w.heap.size with e | e
  · have : w.heap = #[] := Array.eq_empty_of_size_eq_zero e
    simp [World.cell?, this] at h
  · exact e
/-- Bytes that came in lie below. -/
theorem Src.low {w : World} {k : Nat} {v : Value} {x : List UInt8} (h : Src w k v x) (hk : 0 < x.length → k < w.heap.size) (hM : MaxL w) : ∃ k', k' < w.heap.size ∧ Src w k' v x := by
  obtain ⟨k', c, s⟩ := h.any (g := 0) hk
  refine ⟨k', ?_, s⟩
  rcases c with c | c
  · exact c
  · rw [c]; exact hM.pos
def b58 : List UInt8 := [71, 69, 84, 32, 47, 32, 72, 84, 84, 80, 47, 49, 46, 49, 13, 10, 72, 111, 115, 116, 58, 32, 97, 13, 10, 13, 10, 71, 69, 84, 32, 47, 110, 101, 120, 116, 32, 72, 84, 84, 80, 47, 49, 46, 49, 13, 10, 72, 111, 115, 116, 58, 32, 97, 13, 10, 13, 10]
def b31 : List UInt8 := [71, 69, 84, 32, 47, 110, 101, 120, 116, 32, 72, 84, 84, 80, 47, 49, 46, 49, 13, 10, 72, 111, 115, 116, 58, 32, 97, 13, 10, 13, 10]
def r31 : Rd := ⟨⟨#[71, 69, 84]⟩, ⟨#[47, 110, 101, 120, 116]⟩, 1, [(⟨#[72, 111, 115, 116]⟩, ⟨#[97]⟩)], [], 31, 0⟩
theorem req58 : reqQ b58 = r29 := by kernel_rfl
theorem req31 : reqQ b31 = r31 := by kernel_rfl
theorem cl_feed : feedS newS (tot [[], []]) 1048576 b58 = (⟨b58, [], 0, false, false, false⟩, true) := by kernel_rfl
theorem cl_next1 : nextS ⟨b58, [], 0, false, false, false⟩ = (⟨b31, [], 0, true, false, false⟩, r29, 0) := by unfold nextS; rw [show reqQ b58 = r29 from req58]; kernel_rfl
theorem cl_next2 (f : List UInt8) : nextS ⟨b31, f, 0, false, false, false⟩ = (⟨[], f, 0, true, false, false⟩, r31, 0) := by
  unfold nextS
  simp only [Bool.false_eq_true, if_false]
  rw [show reqQ b31 = r31 from req31]
  rfl
theorem tot2 (a c : List UInt8) : tot [a, c] = a.length + c.length := by simp [tot]
theorem cl_say1 (f : List UInt8) (h : f.length ≤ 1000) : sayS ⟨b31, [], 0, true, false, false⟩ (tot [b31, []]) 1048576 f false = (⟨b31, f, 0, false, false, false⟩, true) := by
  unfold sayS noteS say2
  rw [tot2]
  simp only [Bool.false_eq_true, if_false, List.length_nil, List.nil_append]
  rw [if_pos (by have : b31.length = 31 := rfl; omega)]
theorem cl_feed2 (f mo : List UInt8) (h : f.length ≤ 1000) (k : mo.length ≤ 1000) : feedS ⟨[], f, 0, true, false, false⟩ (tot [[], f]) 1048576 mo = (⟨mo, f, 0, true, false, false⟩, true) := by
  unfold feedS
  rw [tot2, if_neg (by simp), if_pos (by simp; omega)]
  rfl
theorem cl_say2 (f l mo : List UInt8) (h : f.length ≤ 1000) (k : l.length ≤ 1000) : sayS ⟨mo, f, 0, true, false, false⟩ (tot [mo, f]) 1048576 l true = (⟨[], f ++ l, 0, false, false, true⟩, true) := by
  unfold sayS noteS say2 shutS
  rw [tot2]
  simp only [Bool.false_eq_true, if_false, if_true, List.length_nil]
  rw [if_pos (by omega)]
theorem cl_feed3 (x mo : List UInt8) : feedS ⟨[], x, 0, false, false, true⟩ (tot [[], x]) 1048576 mo = (⟨[], x, 0, false, false, true⟩, true) := rfl
theorem cl_wait (x : List UInt8) : waitS ⟨[], x, 0, false, false, true⟩ = (⟨[], x, 0, false, false, true⟩, false) := rfl
theorem cl_next3 (x : List UInt8) : nextS ⟨[], x, 0, false, false, true⟩ = (⟨[], x, 0, false, false, true⟩, rdNo 0, -1) := rfl
theorem cl_win (x : List UInt8) (h : x.length ≤ 2000) : windowS ⟨[], x, 0, false, false, true⟩ x.length = ⟨[], x, x.length, false, false, true⟩ := by
  unfold windowS
  simp only [Cs.mk.injEq, true_and, and_true]
  omega
theorem cl_n (x : List UInt8) (h : x.length ≤ 2000) : writeN ⟨[], x, x.length, false, false, true⟩ 1073741824 = x.length := by
  unfold writeN wantS
  simp only
  omega
theorem cl_write (x : List UInt8) (h : x.length ≤ 2000) : writeS ⟨[], x, x.length, false, false, true⟩ 1073741824 = ⟨[], [], 0, false, false, true⟩ := by
  unfold writeS
  rw [cl_n x h]
  simp only [List.drop_length, Int.sub_self]
set_option maxRecDepth 100000 in
set_option maxHeartbeats 4000000 in
theorem closes18_walk (k0 n0 c0 : Nat) (a0 : Option Addr) (f : List UInt8) (k1 n1 c1 : Nat) (a1 : Option Addr) (l : List UInt8) (k2 n2 c2 : Nat) (a2 : Option Addr) (mo : List UInt8) (w : World)
    (h0 : Src w k0 (.slice a0 n0 c0) f) (q0 : 0 < f.length → k0 < w.heap.size) (z0 : a0 = none → c0 = 0) (h1 : Src w k1 (.slice a1 n1 c1) l) (q1 : 0 < l.length → k1 < w.heap.size) (z1 : a1 = none → c1 = 0)
    (h2 : Src w k2 (.slice a2 n2 c2) mo) (q2 : 0 < mo.length → k2 < w.heap.size) (hM : MaxL w) :
    Calls Tryz.prog 7 #[.slice a0 n0 c0, .slice a1 n1 c1, .slice a2 n2 c2] w fun e w' => e = .returned (.bool true) ∧ Below w.heap.size w w' := by
  obtain ⟨k0', p0, s0⟩ := h0.low q0 hM
  obtain ⟨k1', p1, s1⟩ := h1.low q1 hM
  obtain ⟨k2', p2, s2⟩ := h2.low q2 hM
  obtain ⟨e0, _, _⟩ := h0.len
  obtain ⟨e1, _, _⟩ := h1.len
  obtain ⟨e2, _, _⟩ := h2.len
  subst e0 e1 e2
  have S0 : Hid (Src w k0' (.slice a0 f.length c0) f) := s0
  have S1 : Hid (Src w k1' (.slice a1 l.length c1) l) := s1
  have S2 : Hid (Src w k2' (.slice a2 mo.length c2) mo) := s2
  have HM : Hid (MaxL w) := hM
  have HA := alive18_any w hM
  clear hM h0 h1 h2 q0 q1 q2 s0 s1 s2
  by_cases g0 : 1000 < f.length
  · clear S0 S1 S2
    generalize f.length = n at *
    go_enter Tryz.func7, Tryz.ntmps7
    go_wp2_with fail
    refine HA.mono ?_
    rintro e w1 ⟨rfl, B1⟩
    go_wp2
    go_ret
    exact ⟨rfl, B1⟩
  by_cases g1 : 1000 < l.length
  · clear S0 S1 S2
    generalize f.length = n at *
    generalize l.length = n1 at *
    go_enter Tryz.func7, Tryz.ntmps7
    go_wp2_with fail
    refine HA.mono ?_
    rintro e w1 ⟨rfl, B1⟩
    go_wp2
    go_ret
    exact ⟨rfl, B1⟩
  by_cases g2 : 1000 < mo.length
  · clear S0 S1 S2
    generalize f.length = n at *
    generalize l.length = n1 at *
    generalize mo.length = n2 at *
    go_enter Tryz.func7, Tryz.ntmps7
    go_wp2_with fail
    refine HA.mono ?_
    rintro e w1 ⟨rfl, B1⟩
    go_wp2
    go_ret
    exact ⟨rfl, B1⟩
  have hf : f.length ≤ 1000 := by omega
  have hl : l.length ≤ 1000 := by omega
  have hm : mo.length ≤ 1000 := by omega
  go_enter Tryz.func7, Tryz.ntmps7
  go_wp2_with fail
  refine HA.mono ?_
  rintro e w1 ⟨rfl, B1⟩
  clear HA
  have HMB : Hid (∀ W, Below w1.heap.size w1 W → MaxL W) := fun W b => (HM.out.below B1).below b
  have S0 : Hid (∀ W, Below w1.heap.size w1 W → Src W k0' (.slice a0 f.length c0) f ∧ k0' < w1.heap.size) := fun W b => ⟨(S0.out.below p0 B1).below (Nat.lt_of_lt_of_le p0 B1.size) b, Nat.lt_of_lt_of_le p0 B1.size⟩
  have S1 : Hid (∀ W, Below w1.heap.size w1 W → Src W k1' (.slice a1 l.length c1) l ∧ k1' < w1.heap.size) := fun W b => ⟨(S1.out.below p1 B1).below (Nat.lt_of_lt_of_le p1 B1.size) b, Nat.lt_of_lt_of_le p1 B1.size⟩
  have S2 : Hid (∀ W, Below w1.heap.size w1 W → Src W k2' (.slice a2 mo.length c2) mo ∧ k2' < w1.heap.size) := fun W b => ⟨(S2.out.below p2 B1).below (Nat.lt_of_lt_of_le p2 B1.size) b, Nat.lt_of_lt_of_le p2 B1.size⟩
  have HB1 : Hid (Below w.heap.size w w1) := B1
  clear B1 HM
  obtain ⟨fn, hfn⟩ : ∃ n, n = f.length := ⟨_, rfl⟩
  obtain ⟨ln, hln⟩ : ∃ n, n = l.length := ⟨_, rfl⟩
  obtain ⟨mn, hmn⟩ : ∃ n, n = mo.length := ⟨_, rfl⟩
  rw [← hfn] at S0 ⊢
  rw [← hln] at S1 ⊢
  rw [← hmn] at S2 ⊢
  have y0 : ¬ (1000 : Int) < fn := by omega
  have y1 : ¬ (1000 : Int) < ln := by omega
  have y2 : ¬ (1000 : Int) < mn := by omega
  have HF : Hid (fn = f.length ∧ f.length ≤ 1000) := ⟨hfn, hf⟩
  have HL : Hid (ln = l.length ∧ l.length ≤ 1000) := ⟨hln, hl⟩
  have HN : Hid (mn = mo.length ∧ mo.length ≤ 1000) := ⟨hmn, hm⟩
  clear g0 g1 g2 hf hl hm hfn hln hmn
  go_wp2_with fail
  refine (new_any 1048576 _).mono ?_
  rintro e w2 ⟨rfl, hw2⟩
  have M0 : Many (fun k => k < w1.heap.size) w1 w2 w1.heap.size [] [] 1048576 0 := by rw [hw2]; exact isM_start 1048576 (by decide) (by decide)
  clear hw2 y0 y1 y2
  go_wp2_with fail
  refine (conew_any M0).mono ?_
  rintro e w3 ⟨b, rs, rfl, hb, C0, hrl, B0⟩
  have hb1 : w1.heap.size < b := by have := M0.isM.lt; omega
  have C3 : Cn (fun k => k < w1.heap.size ∨ k = b) w1 w3 w1.heap.size rs [[], []] 1048576 b 0 newS := C0
  clear C0 M0 B0 hb
  have hcs := fun C : Array Value => conv_same w3 C 58 58
  go_wp2_with fail
  refine (cofeed_new C3 ((Below.refl _ _).alloc (Nat.le_refl _) _) w3.heap.size b58 _ (lit_src w3 b58 58 _ _ rfl (by decide) rfl) (.inr ⟨Nat.le_refl _, by simp⟩)).mono ?_
  rw [cl_feed]
  rintro e w4 ⟨rfl, A4⟩
  have C4 : Cn (fun k => k < w1.heap.size ∨ k = b) w1 w4 w1.heap.size rs [b58, []] 1048576 b 0 ⟨b58, [], 0, false, false, false⟩ := A4.1
  clear A4 C3 hcs
  have HX := conext_any C4 (by decide) (HMB.out _ C4.bel)
  rw [cl_next1] at HX
  unfold nxV r29 at HX
  simp only at HX
  go_wp2_with fail
  refine HX.mono ?_
  rintro e w5 ⟨fa, ba, fc, bc, rfl, -, -, A5⟩
  have C5 : Cn (fun k => k < w1.heap.size ∨ k = b) w1 w5 w1.heap.size rs [b31, []] 1048576 b 0 ⟨b31, [], 0, true, false, false⟩ := A5.1
  clear HX A5 C4
  have C6 := C5.below ((Below.refl _ _).alloc (Nat.le_refl _) (.cells #[.string ⟨#[71, 69, 84]⟩, .string ⟨#[47]⟩, .int .i64 1, .slice fa 1 fc, .slice ba 0 bc] 43))
  clear C5
  go_wp2_with fail
  generalize w5.alloc (.cells #[.string ⟨#[71, 69, 84]⟩, .string ⟨#[47]⟩, .int .i64 1, .slice fa 1 fc, .slice ba 0 bc] 43) = w6 at *
  obtain ⟨s0, p0'⟩ := S0.out w6 C6.bel
  refine (cosay_any C6 k0' f _ false s0 (.inl p0') (by omega)).mono ?_
  rw [cl_say1 f HF.out.2]
  rintro e w7 ⟨rfl, A7⟩
  have C7 : Cn (fun k => k < w1.heap.size ∨ k = b) w1 w7 w1.heap.size rs [b31, f] 1048576 b 0 ⟨b31, f, 0, false, false, false⟩ := A7.1
  clear A7 C6 s0 p0'
  have HX := conext_any C7 (show b31.length ≤ 6144 by decide) (HMB.out _ C7.bel)
  rw [cl_next2] at HX
  unfold nxV r31 at HX
  simp only at HX
  go_wp2_with fail
  refine HX.mono ?_
  rintro e w8 ⟨fa8, ba8, fc8, bc8, rfl, -, -, A8⟩
  have C8 : Cn (fun k => k < w1.heap.size ∨ k = b) w1 w8 w1.heap.size rs [[], f] 1048576 b 0 ⟨[], f, 0, true, false, false⟩ := A8.1
  clear HX A8 C7
  have C9 := C8.below ((Below.refl _ _).alloc (Nat.le_refl _) (.cells #[.string ⟨#[71, 69, 84]⟩, .string ⟨#[47, 110, 101, 120, 116]⟩, .int .i64 1, .slice fa8 1 fc8, .slice ba8 0 bc8] 43))
  clear C8
  go_wp2_with fail
  generalize w8.alloc (.cells #[.string ⟨#[71, 69, 84]⟩, .string ⟨#[47, 110, 101, 120, 116]⟩, .int .i64 1, .slice fa8 1 fc8, .slice ba8 0 bc8] 43) = w9 at *
  obtain ⟨s2, p2'⟩ := S2.out w9 C9.bel
  refine (cofeed_any C9 k2' mo _ s2 (.inl p2')).mono ?_
  rw [cl_feed2 f mo HF.out.2 HN.out.2]
  rintro e w10 ⟨rfl, A10⟩
  have C10 : Cn (fun k => k < w1.heap.size ∨ k = b) w1 w10 w1.heap.size rs [mo, f] 1048576 b 0 ⟨mo, f, 0, true, false, false⟩ := A10.1
  clear A10 C9 s2 p2'
  go_wp2_with fail
  obtain ⟨s1, p1'⟩ := S1.out w10 C10.bel
  refine (cosay_any C10 k1' l _ true s1 (.inl p1') (by omega)).mono ?_
  rw [cl_say2 f l mo HF.out.2 HL.out.2]
  rintro e w11 ⟨rfl, A11⟩
  have C11 : Cn (fun k => k < w1.heap.size ∨ k = b) w1 w11 w1.heap.size rs [[], f ++ l] 1048576 b 0 ⟨[], f ++ l, 0, false, false, true⟩ := A11.1
  clear A11 C10 s1 p1'
  go_wp2_with fail
  obtain ⟨s2, p2'⟩ := S2.out w11 C11.bel
  refine (cofeed_any C11 k2' mo _ s2 (.inl p2')).mono ?_
  rw [cl_feed3]
  rintro e w12 ⟨rfl, A12⟩
  have C12 : Cn (fun k => k < w1.heap.size ∨ k = b) w1 w12 w1.heap.size rs [[], f ++ l] 1048576 b 0 ⟨[], f ++ l, 0, false, false, true⟩ := A12.1
  clear A12 C11 s2 p2'
  have hxl : (((⟨[], f ++ l, 0, false, false, true⟩ : Cs).li.length + (⟨[], f ++ l, 0, false, false, true⟩ : Cs).lo.length : Nat) : Int) = (fn : Int) + ln := by
    obtain ⟨x1, x2⟩ := HF.out
    obtain ⟨x3, x4⟩ := HL.out
    simp only [List.length_append, List.length_nil]
    omega
  have y3 : (fn : Int) + ln ≤ 2000 := by have := HF.out; have := HL.out; omega
  have HQ := coheld_any C12
  rw [hxl] at HQ
  go_wp2_with fail
  refine HQ.mono ?_
  rintro e w13 ⟨rfl, B13⟩
  have C13 := C12.below B13
  clear HQ C12 B13
  obtain ⟨p, HK⟩ := C13.many
  have HD := held_q w1.heap.size 1048576 _ p w13 HK.isM
  rw [show (((tot [[], f ++ l] : Nat)) : Int) = (fn : Int) + ln by rw [tot2]; exact hxl] at HD
  clear HK
  go_wp2_with fail
  refine HD.mono ?_
  rintro e w' ⟨rfl, hw⟩
  rw [hw]
  clear hw HD
  have HQ := coheld_any C13
  rw [hxl] at HQ
  go_wp2_with fail
  refine HQ.mono ?_
  rintro e w14 ⟨rfl, B14⟩
  have C14 := C13.below B14
  clear HQ C13 B14
  go_wp2_with fail
  refine (cowaits_any C14 (Nat.zero_le _) (HMB.out _ C14.bel)).mono ?_
  rw [cl_wait]
  rintro e w15 ⟨rfl, A15⟩
  have C15 : Cn (fun k => k < w1.heap.size ∨ k = b) w1 w15 w1.heap.size rs [[], f ++ l] 1048576 b 0 ⟨[], f ++ l, 0, false, false, true⟩ := A15.1
  clear A15 C14
  have HX := conext_any C15 (Nat.zero_le _) (HMB.out _ C15.bel)
  rw [cl_next3] at HX
  unfold nxV rdNo at HX
  simp only [List.length_nil] at HX
  go_wp2_with fail
  refine HX.mono ?_
  rintro e w16 ⟨fa16, ba16, fc16, bc16, rfl, -, -, A16⟩
  have C16 : Cn (fun k => k < w1.heap.size ∨ k = b) w1 w16 w1.heap.size rs [[], f ++ l] 1048576 b 0 ⟨[], f ++ l, 0, false, false, true⟩ := A16.1
  clear HX A16 C15
  have C17 := C16.below ((Below.refl _ _).alloc (Nat.le_refl _) (.cells #[.string ⟨#[]⟩, .string ⟨#[]⟩, .int .i64 0, .slice fa16 0 fc16, .slice ba16 0 bc16] 43))
  clear C16
  go_wp2_with fail
  generalize w16.alloc (.cells #[.string ⟨#[]⟩, .string ⟨#[]⟩, .int .i64 0, .slice fa16 0 fc16, .slice ba16 0 bc16] 43) = w17 at *
  refine (coclosing_any C17).mono ?_
  rintro e w' ⟨rfl, hw⟩
  rw [hw]
  clear hw
  have hlen : (((f ++ l).length : Nat) : Int) = (fn : Int) + ln := by rw [← hxl]; simp
  have h2k : (f ++ l).length ≤ 2000 := by omega
  have hw18 : windowS ⟨[], f ++ l, 0, false, false, true⟩ ((fn : Int) + ln) = ⟨[], f ++ l, ((f ++ l).length : Nat), false, false, true⟩ := by rw [← hlen]; exact cl_win _ h2k
  have H18 := cowindow_any C17 ((fn : Int) + ln)
  rw [hw18] at H18
  have HLEN : Hid ((((f ++ l).length : Nat) : Int) = (fn : Int) + ln ∧ (f ++ l).length ≤ 2000) := ⟨hlen, h2k⟩
  clear hlen h2k hw18 hxl
  go_wp2_with fail
  refine H18.mono ?_
  rintro e w18 ⟨rfl, A18⟩
  have C18 : Cn (fun k => k < w1.heap.size ∨ k = b) w1 w18 w1.heap.size rs [[], f ++ l] 1048576 b 0 ⟨[], f ++ l, ((f ++ l).length : Nat), false, false, true⟩ := A18.1
  clear A18 C17 H18
  have H19 := cowrite_any C18 1073741824
  rw [cl_n _ HLEN.out.2, cl_write _ HLEN.out.2] at H19
  go_wp2_with fail
  refine H19.mono ?_
  rintro e w19 ⟨g, rfl, hg, hrow, A19⟩
  have C19 : Cn (fun k => k < w1.heap.size ∨ k = b) w1 w19 w1.heap.size rs [[], []] 1048576 b 0 ⟨[], [], 0, false, false, true⟩ := A19.1.weak (fun _ h => .inl h) C18.own
  rw [List.take_length] at hrow
  have hgl := heap_lt hrow
  have SX := src_row hrow rfl (Nat.le_trans HLEN.out.2 (by decide))
  clear A19 C18 H19 hrow
  have U0 : Below w19.heap.size w19 (w19.alloc (.cells #[] 5)) := (Below.refl _ _).alloc (Nat.le_refl _) _
  obtain ⟨s0, p0'⟩ := S0.out _ (C19.bel.trans (U0.mono C19.bel.size))
  obtain ⟨v1, w20, r20, O20, B20⟩ := own_append (Own.empty w19.heap.size w19 (Nat.le_refl _)) s0 z0 (by have := HF.out; simp only [List.length_nil]; omega) U0.size
  have D20 := U0.trans B20
  obtain ⟨s1, p1'⟩ := S1.out _ (C19.bel.trans (D20.mono C19.bel.size))
  obtain ⟨v2, w21, r21, O21, B21⟩ := own_append O20 s1 z1 (by have := HF.out; have := HL.out; simp only [List.nil_append]; omega) D20.size
  have D21 := D20.trans B21
  have R20 : Hid _ := r20
  have R21 : Hid _ := r21
  obtain ⟨kx, sx, -⟩ := O21.src
  have HS := sameBytes_eq (f ++ l) g kx _ v2 w21 (SX.below hgl D21) sx
  have C21 := C19.below D21
  clear r20 r21 U0 s0 p0' B20 s1 p1' O20 O21 B21 SX sx C19 D20 D21 S0 S1 S2
  generalize (f ++ l).length = xl at *
  go_wp2_with (first | (at_builtin; refine wpList_append_run2 rfl _ _ 31 31 rfl _ _ _ w20 rfl rfl R20.out ?_) | (at_builtin; refine wpList_append_run2 rfl _ _ 31 31 rfl _ _ _ w21 rfl rfl R21.out ?_))
  refine HS.mono ?_
  rintro e w22 ⟨rfl, B22⟩
  have C22 := C21.below B22
  clear HS C21 B22 R20 R21
  go_wp2_with fail
  refine (codone_any C22).mono ?_
  rw [show doneS ⟨[], [], 0, false, false, true⟩ = true from rfl]
  rintro e w' ⟨rfl, hw⟩
  rw [hw]
  clear hw
  obtain ⟨p, HK⟩ := C22.many
  have HD := held_q w1.heap.size 1048576 _ p w22 HK.isM
  rw [show (((tot [[], []] : Nat)) : Int) = 0 from rfl] at HD
  clear HK
  go_wp2_with fail
  refine HD.mono ?_
  rintro e w' ⟨rfl, hw⟩
  rw [hw]
  clear hw HD
  go_wp2_with fail
  refine (cowant_any C22).mono ?_
  rw [show wantS ⟨[], [], 0, false, false, true⟩ = 0 from rfl]
  rintro e w23 ⟨rfl, B23⟩
  have C23 := C22.below B23
  have HE : Hid (Below w.heap.size w w23) := HB1.out.trans (C23.bel.mono HB1.out.size)
  clear C22 C23 B23
  go_wp2
  go_ret
  exact ⟨rfl, HE.out⟩
end Go.Proofs.YtemmmdhmkegaaaaGreatDoor

/- ConnWaits: plain facts. -/
namespace Go.Proofs.YtemmmdhmkegaaaaGreatDoor
open Go.RowKit
set_option linter.unusedVariables false

def pre63 : ByteArray := ⟨#[80, 85, 84, 32, 47, 32, 72, 84, 84, 80, 47, 49, 46, 49, 13, 10, 72, 111, 115, 116, 58, 32, 97, 13, 10, 69, 120, 112, 101, 99, 116, 58, 32, 49, 48, 48, 45, 99, 111, 110, 116, 105, 110, 117, 101, 13, 10, 67, 111, 110, 116, 101, 110, 116, 45, 76, 101, 110, 103, 116, 104, 58, 32]⟩
def digB (d : Nat) : UInt8 := UInt8.ofNat (48 + d)
def hdT (d : Nat) : ByteArray := pre63 ++ ⟨#[digB d]⟩ ++ ⟨#[13, 10, 13, 10]⟩
def hdL (d : Nat) : List UInt8 := (hdT d).data.toList
theorem hdL_len (d : Nat) : (hdL d).length = 68 := rfl
theorem hdT_size (d : Nat) : (hdT d).size = 68 := rfl
def fs9 (d : Nat) : Fs := [(⟨#[72, 111, 115, 116]⟩, ⟨#[97]⟩), (⟨#[69, 120, 112, 101, 99, 116]⟩, ⟨#[49, 48, 48, 45, 99, 111, 110, 116, 105, 110, 117, 101]⟩), (⟨#[67, 111, 110, 116, 101, 110, 116, 45, 76, 101, 110, 103, 116, 104]⟩, ⟨#[digB d]⟩)]
def hd9 (d : Nat) : Hd := ⟨⟨#[80, 85, 84]⟩, ⟨#[47]⟩, 1, fs9 d, 68, 0⟩
theorem wt_part : ((List.range 9).all fun d => (List.range 68).all fun k => waitsQ ((hdL (d + 1)).take k) == false) = true := by kernel_rfl
theorem wt_full : ((List.range 9).all fun d => waitsQ (hdL (d + 1))) = true := by kernel_rfl
theorem wt_f9 : ((List.range 9).all fun d => decide ((reqF (fs9 (d + 1)) 1).1 = ((d + 1 : Nat) : Int)) && ((reqF (fs9 (d + 1)) 1).2.1 == false)) = true := by kernel_rfl
end Go.Proofs.YtemmmdhmkegaaaaGreatDoor

/- ConnWaits: the walk. -/
namespace Go.Proofs.YtemmmdhmkegaaaaGreatDoor
open Go.RowKit
set_option linter.unusedVariables false

theorem hd9_1 : headQ (hdL 1) = hd9 1 := by kernel_rfl
theorem hd9_2 : headQ (hdL 2) = hd9 2 := by kernel_rfl
theorem hd9_3 : headQ (hdL 3) = hd9 3 := by kernel_rfl
theorem hd9_4 : headQ (hdL 4) = hd9 4 := by kernel_rfl
theorem hd9_5 : headQ (hdL 5) = hd9 5 := by kernel_rfl
theorem hd9_6 : headQ (hdL 6) = hd9 6 := by kernel_rfl
theorem hd9_7 : headQ (hdL 7) = hd9 7 := by kernel_rfl
theorem hd9_8 : headQ (hdL 8) = hd9 8 := by kernel_rfl
theorem hd9_9 : headQ (hdL 9) = hd9 9 := by kernel_rfl
theorem of_all {p : Nat → Bool} {n : Nat} (h : (List.range n).all p = true) (d : Nat) (hd : d < n) : p d = true := List.all_eq_true.1 h d (List.mem_range.2 hd)
theorem hd9_all (d : Nat) (h1 : 1 ≤ d) (h9 : d ≤ 9) : headQ (hdL d) = hd9 d := by
  have : d = 1 ∨ d = 2 ∨ d = 3 ∨ d = 4 ∨ d = 5 ∨ d = 6 ∨ d = 7 ∨ d = 8 ∨ d = 9 := by omega
  rcases this with rfl | rfl | rfl | rfl | rfl | rfl | rfl | rfl | rfl
  · exact hd9_1
  · exact hd9_2
  · exact hd9_3
  · exact hd9_4
  · exact hd9_5
  · exact hd9_6
  · exact hd9_7
  · exact hd9_8
  · exact hd9_9
theorem wt_part1 (d k : Nat) (h1 : 1 ≤ d) (h9 : d ≤ 9) (hk : k < 68) : waitsQ ((hdL d).take k) = false := by
  have e := of_all (of_all wt_part (d - 1) (by omega)) k hk
  rw [show d - 1 + 1 = d by omega] at e
  simpa using e
theorem wt_full1 (d : Nat) (h1 : 1 ≤ d) (h9 : d ≤ 9) : waitsQ (hdL d) = true := by
  have e := of_all wt_full (d - 1) (by omega)
  rw [show d - 1 + 1 = d by omega] at e
  exact e
theorem wt_f91 (d : Nat) (h1 : 1 ≤ d) (h9 : d ≤ 9) : (reqF (fs9 d) 1).1 = (d : Int) ∧ (reqF (fs9 d) 1).2.1 = false := by
  have e := of_all wt_f9 (d - 1) (by omega)
  rw [show d - 1 + 1 = d by omega] at e
  simpa using e
theorem hd9_app (d : Nat) (x : List UInt8) (h1 : 1 ≤ d) (h9 : d ≤ 9) : headQ (hdL d ++ x) = hd9 d := by
  rw [headQ_app _ _ (.inl (by rw [hd9_all d h1 h9]; show ¬ (68 : Nat) = 0; decide)), hd9_all d h1 h9]
theorem body9 (d : Nat) (x : List UInt8) (h1 : 1 ≤ d) (h9 : d ≤ 9) : bodyOf (hd9 d) (hdL d ++ x) = if x.length < d then ([], 0, 0) else (x.take d, 68 + d, 0) := by
  obtain ⟨e1, e2⟩ := wt_f91 d h1 h9
  show bodyQ (hdL d ++ x) 68 (reqF (fs9 d) 1).1 (reqF (fs9 d) 1).2.1 = _
  rw [e1, e2]
  unfold bodyQ
  rw [if_neg (by decide), List.length_append, hdL_len, List.drop_append_of_le_length (by rw [hdL_len]; omega)]
  rw [show List.drop 68 (hdL d) = [] from List.drop_eq_nil_of_le (by rw [hdL_len]; omega), List.nil_append, Int.toNat_natCast]
  by_cases h : x.length < d
  · rw [if_pos h, if_pos (by omega)]
  · rw [if_neg h, if_neg (by omega)]
theorem req9_no (d : Nat) (x : List UInt8) (h1 : 1 ≤ d) (h9 : d ≤ 9) (h : x.length < d) : reqQ (hdL d ++ x) = rdNo 0 := by
  unfold reqQ
  rw [hd9_app d x h1 h9, body9 d x h1 h9, if_pos h, if_neg (show ¬ (hd9 d).n = 0 by show ¬ (68 : Nat) = 0; decide)]
  rfl
theorem req9_yes (d : Nat) (x : List UInt8) (h1 : 1 ≤ d) (h9 : d ≤ 9) (h : x.length = d) : reqQ (hdL d ++ x) = ⟨⟨#[80, 85, 84]⟩, ⟨#[47]⟩, 1, fs9 d, x, 68 + d, 0⟩ := by
  unfold reqQ
  rw [hd9_app d x h1 h9, body9 d x h1 h9, if_neg (show ¬ x.length < d by omega), if_neg (show ¬ (hd9 d).n = 0 by show ¬ (68 : Nat) = 0; decide), ← h, List.take_length]
  unfold rdOf
  rw [if_neg (by simp only; omega)]
  rfl
-- the steps of a round
def w0s (li : List UInt8) (t : Bool) : Cs := ⟨li, [], 0, false, t, false⟩
theorem wf (li x : List UInt8) (t : Bool) (h : li.length + x.length ≤ 1000) : feedS (w0s li t) (tot [li, []]) 1048576 x = (w0s (li ++ x) t, true) := by
  unfold feedS w0s
  rw [tot2, if_neg (show ¬ false = true by decide), if_pos (by simp only [List.length_nil]; omega)]
theorem ww1 (d k : Nat) (h1 : 1 ≤ d) (h9 : d ≤ 9) (hk : k < 68) : waitS (w0s ((hdL d).take k) false) = (w0s ((hdL d).take k) false, false) := by
  unfold waitS w0s
  simp only [Bool.false_eq_true, if_false, wt_part1 d k h1 h9 hk]
theorem ww2 (d : Nat) (h1 : 1 ≤ d) (h9 : d ≤ 9) : waitS (w0s (hdL d) false) = (w0s (hdL d) true, true) := by
  unfold waitS w0s
  simp only [Bool.false_eq_true, if_false, wt_full1 d h1 h9]
theorem ww3 (x : List UInt8) : waitS (w0s x true) = (w0s x true, false) := rfl
theorem wn1 (d : Nat) (x : List UInt8) (h1 : 1 ≤ d) (h9 : d ≤ 9) (h : x.length < d) : nextS (w0s (hdL d ++ x) true) = (w0s (hdL d ++ x) true, rdNo 0, -1) := by
  unfold nextS w0s
  simp only [Bool.false_eq_true, if_false, req9_no d x h1 h9 h]
  rfl
theorem wn2 (d : Nat) (x : List UInt8) (h1 : 1 ≤ d) (h9 : d ≤ 9) (h : x.length = d) : nextS (w0s (hdL d ++ x) true) = (⟨[], [], 0, true, false, false⟩, ⟨⟨#[80, 85, 84]⟩, ⟨#[47]⟩, 1, fs9 d, x, 68 + d, 0⟩, 0) := by
  unfold nextS w0s
  simp only [Bool.false_eq_true, if_false, req9_yes d x h1 h9 h, if_true]
  rw [if_neg (by omega), List.drop_eq_nil_of_le (by rw [List.length_append, hdL_len]; omega)]
theorem wb : waitS ⟨[], [], 0, true, false, false⟩ = (⟨[], [], 0, true, false, false⟩, false) := rfl
theorem wsay : sayS ⟨[], [], 0, true, false, false⟩ (tot [[], []]) 1048576 [] false = (w0s [] false, true) := rfl
end Go.Proofs.YtemmmdhmkegaaaaGreatDoor

/- ConnWaits: the walk. -/
namespace Go.Proofs.YtemmmdhmkegaaaaGreatDoor
open Go.RowKit
set_option linter.unusedVariables false

theorem lcat_runC (W : World) (a b : ByteArray) (h : a.size + b.size ≤ 281474976710656) : (Op.stringOp .add a b).run Tryz.prog W = .ok (.string (a ++ b)) W :=
  run_string_add_sum W a b (by omega)
theorem conv1C (W : World) (x : Int) (b : UInt8) (h : (b.toNat : Int) = x) : (convert 31 9 (.slice (some ⟨W.heap.size, 0, none⟩) 1 1)).run Tryz.prog (W.alloc (.cells #[.int .u8 x] 5)) = .ok (.string ⟨#[b]⟩) (W.alloc (.cells #[.int .u8 x] 5)) := by
  have k := run_convert_bytes_back (P := Tryz.prog) (W.alloc (.cells #[.int .u8 x] 5)) 31 9 5 ⟨W.heap.size, 0, none⟩ 1 [b] Tryz.underlying31 Tryz.underlying5 Tryz.underlying9 (fun j hj => by
    obtain rfl : j = 0 := by simpa using hj
    rw [Lib.add_plain]
    exact tblk_cell (tblk_new _ _) (by simp [h]))
  exact k
theorem dig_toNat (d : Nat) (h : d ≤ 9) : ((digB d).toNat : Int) = 48 + (d : Int) := by
  have : d = 0 ∨ d = 1 ∨ d = 2 ∨ d = 3 ∨ d = 4 ∨ d = 5 ∨ d = 6 ∨ d = 7 ∨ d = 8 ∨ d = 9 := by omega
  rcases this with rfl | rfl | rfl | rfl | rfl | rfl | rfl | rfl | rfl | rfl <;> rfl
set_option maxRecDepth 100000 in
set_option maxHeartbeats 4000000 in
theorem waits18_walk (z0 z1 : Int) (k0 n0 c0 : Nat) (a0 : Option Addr) (x : List UInt8) (w : World) (h0 : Src w k0 (.slice a0 n0 c0) x) (q0 : 0 < x.length → k0 < w.heap.size) (hM : MaxL w) :
    Calls Tryz.prog 6 #[.int .i64 z0, .int .i64 z1, .slice a0 n0 c0] w fun e w' => e = .returned (.bool true) ∧ Below w.heap.size w w' := by
  obtain ⟨e0, _, _⟩ := h0.len
  subst e0
  have HA := alive18_any w hM
  obtain ⟨n, hn, hbn0⟩ := and_mask z0 7 (by decide)
  have hbn : bits .and .i64 z0 7 = (n : Int) := hbn0
  obtain ⟨q, hq, hbq0⟩ := and_mask z1 1023 (by decide)
  have hbq : bits .and .i64 z1 1023 = (q : Int) := hbq0
  clear hbn0 hbq0
  by_cases g0 : x.length = 0
  · rw [g0]
    clear h0 q0 g0 hbn hbq
    go_enter Tryz.func6, Tryz.ntmps6
    go_wp2_with fail
    refine HA.mono ?_
    rintro e w1 ⟨rfl, B1⟩
    go_wp2
    go_ret
    exact ⟨rfl, B1⟩
  by_cases g1 : 9 < x.length
  · clear h0 q0 hbn hbq
    generalize x.length = d at *
    have g2 : ((d : Int) == 0) = false := by simp; omega
    go_enter Tryz.func6, Tryz.ntmps6
    go_wp2_with fail
    refine HA.mono ?_
    rintro e w1 ⟨rfl, B1⟩
    go_wp2
    go_ret
    exact ⟨rfl, B1⟩
  have hd1 : 1 ≤ x.length := by omega
  have hd9 : x.length ≤ 9 := by omega
  obtain ⟨a', c', e, j1, j2, j3⟩ := h0
  obtain ⟨e1, e2, e3⟩ := slice_inj e
  subst e1 e3
  obtain ⟨off, rfl, j4⟩ := j3 (by omega)
  have hS : Src w k0 (.slice (some ⟨k0, off, none⟩) x.length c0) x := ⟨_, _, rfl, j1, j2, j3⟩
  have hk : k0 < w.heap.size := q0 (by omega)
  have HS : Hid (Src w k0 (.slice (some ⟨k0, off, none⟩) x.length c0) x ∧ k0 < w.heap.size) := ⟨hS, hk⟩
  have HM : Hid (MaxL w) := hM
  clear hS j3 j4 e e2 q0 hM hk
  obtain ⟨d, hd⟩ : ∃ d, d = x.length := ⟨_, rfl⟩
  rw [← hd] at HS j1 hd1 hd9 g0 g1 ⊢
  have HD : Hid (d = x.length) := hd
  have y1 : ((d : Int) == 0) = false := by simp; omega
  have y2 : ¬ (9 : Int) < d := by omega
  clear hd g0 g1
  go_enter Tryz.func6, Tryz.ntmps6
  go_wp2_with fail
  refine HA.mono ?_
  rintro e w1 ⟨rfl, B1⟩
  have HB1 : Hid (Below w.heap.size w w1) := B1
  clear HA B1
  go_wp2_with fail
  refine (new_any 1048576 _).mono ?_
  rintro e w2 ⟨rfl, hw2⟩
  have M0 : Many (fun k => k < w1.heap.size) w1 w2 w1.heap.size [] [] 1048576 0 := by rw [hw2]; exact isM_start 1048576 (by decide) (by decide)
  clear hw2
  go_wp2_with fail
  refine (conew_any M0).mono ?_
  rintro e w3 ⟨b, rs, rfl, hb, C0, hrl, B3⟩
  have hb1 : w1.heap.size < b := by have := M0.isM.lt; omega
  have C3 : Hid (Cn (fun k => k < w1.heap.size ∨ k = b) w1 w3 w1.heap.size rs [[], []] 1048576 b 0 (w0s [] false)) := C0
  clear C0 M0 B3 hb hbn
  go_wp2_with fail
  go_loopw [8] (fun vi wr => ∃ i : Nat, i ≤ n ∧ vi = .int .i64 i ∧ Hid (Cn (fun k => k < w1.heap.size ∨ k = b) w1 wr w1.heap.size rs [[], []] 1048576 b 0 (w0s [] false))) (fun vi _ => n - (intOf vi).toNat)
  case atStart => exact ⟨0, Nat.zero_le _, rfl, C3⟩
  case round =>
    obtain ⟨i, hi, rfl, HC⟩ := hrel
    by_cases hin : i < n
    · have hc1 := conv1C wr (48 + d) (digB d) (dig_toNat d hd9)
      have k1 : (i : Int) < n := by omega
      have hK : q % 68 < 68 := Nat.mod_lt _ (by decide)
      have UA : Below wr.heap.size wr (wr.alloc (.cells #[.int .u8 (48 + d)] 5)) := (Below.refl _ _).alloc (Nat.le_refl _) _
      obtain ⟨v1, wA, run1, S1, B1, l1⟩ := conv_src (wr.alloc (.cells #[.int .u8 (48 + d)] 5)) ((hdT d).extract 0 (q % 68)) (by have := extract_le (hdT d) 0 (q % 68); rw [hdT_size] at this; unfold maxLen; omega)
      have S1' : Src wA (wr.alloc (.cells #[.int .u8 (48 + d)] 5)).heap.size v1 ((hdL d).take (q % 68)) := by
        have e := Lib.extract_data (hdT d) 0 (q % 68)
        rw [List.drop_zero, Nat.sub_zero] at e
        unfold hdL
        rw [← e]
        exact S1
      have HF := cofeed_new HC.out (UA.trans (B1.mono UA.size)) _ _ v1 S1' (.inr ⟨UA.size, l1⟩)
      unfold hdT pre63 at run1
      clear S1 S1' B1 UA l1
      go_wp2_with fail
      refine HF.mono ?_
      rw [show feedS (w0s [] false) (tot [[], []]) 1048576 ((hdL d).take (q % 68)) = (w0s ((hdL d).take (q % 68)) false, true) from wf [] _ false (by rw [List.length_take, hdL_len]; simp only [List.length_nil]; omega)]
      rintro e w5 ⟨rfl, A5⟩
      have C5 : Cn (fun k => k < w1.heap.size ∨ k = b) w1 w5 w1.heap.size rs [(hdL d).take (q % 68), []] 1048576 b 0 (w0s ((hdL d).take (q % 68)) false) := A5.1
      clear A5 HF HC run1 hc1
      go_wp2_with fail
      refine (cowaits_any C5 (by show ((hdL d).take (q % 68)).length ≤ 6144; rw [List.length_take, hdL_len]; omega) ((HM.out.below HB1.out).below C5.bel)).mono ?_
      rw [ww1 d _ hd1 hd9 hK]
      rintro e w6 ⟨rfl, A6⟩
      have C6 : Cn (fun k => k < w1.heap.size ∨ k = b) w1 w6 w1.heap.size rs [(hdL d).take (q % 68), []] 1048576 b 0 (w0s ((hdL d).take (q % 68)) false) := A6.1
      clear A6 C5
      obtain ⟨v2, wB, run2, S2, B2, l2⟩ := conv_src w6 ((hdT d).extract (q % 68) 68) (by have := extract_le (hdT d) (q % 68) 68; rw [hdT_size] at this; unfold maxLen; omega)
      have S2' : Src wB w6.heap.size v2 ((hdL d).drop (q % 68)) := by
        have e := Lib.extract_data (hdT d) (q % 68) 68
        rw [List.take_of_length_le (by rw [List.length_drop]; show 68 - _ ≤ _; omega)] at e
        unfold hdL
        rw [← e]
        exact S2
      have HF := cofeed_new C6 B2 _ _ v2 S2' (.inr ⟨Nat.le_refl _, l2⟩)
      unfold hdT pre63 at run2
      clear S2 S2' B2 l2
      go_wp2_with fail
      refine HF.mono ?_
      rw [show feedS (w0s ((hdL d).take (q % 68)) false) (tot [(hdL d).take (q % 68), []]) 1048576 ((hdL d).drop (q % 68)) = (w0s (hdL d) false, true) by
        rw [wf _ _ false (by rw [List.length_take, List.length_drop, hdL_len]; omega), List.take_append_drop]]
      rintro e w7 ⟨rfl, A7⟩
      have C7 : Cn (fun k => k < w1.heap.size ∨ k = b) w1 w7 w1.heap.size rs [hdL d, []] 1048576 b 0 (w0s (hdL d) false) := A7.1
      clear A7 HF C6 run2
      go_wp2_with fail
      refine (cowaits_any C7 (by show (hdL d).length ≤ 6144; rw [hdL_len]; omega) ((HM.out.below HB1.out).below C7.bel)).mono ?_
      rw [ww2 d hd1 hd9]
      rintro e w8 ⟨rfl, A8⟩
      have C8 : Cn (fun k => k < w1.heap.size ∨ k = b) w1 w8 w1.heap.size rs [hdL d, []] 1048576 b 0 (w0s (hdL d) true) := A8.1
      clear A8 C7
      go_wp2_with fail
      refine (cowaits_any C8 (by show (hdL d).length ≤ 6144; rw [hdL_len]; omega) ((HM.out.below HB1.out).below C8.bel)).mono ?_
      rw [ww3]
      rintro e w9 ⟨rfl, A9⟩
      have C9 : Cn (fun k => k < w1.heap.size ∨ k = b) w1 w9 w1.heap.size rs [hdL d, []] 1048576 b 0 (w0s (hdL d) true) := A9.1
      clear A9 C8
      have hx : d = x.length := HD.out
      have hsx : Src w9 k0 (.slice (some ⟨k0, off, none⟩) d c0) x := (HS.out.1.below HS.out.2 HB1.out).below (Nat.lt_of_lt_of_le HS.out.2 HB1.out.size) C9.bel
      have hxt : (x.take (d - 1)).length = d - 1 := by rw [List.length_take]; omega
      have HF := cofeed_any C9 k0 (x.take (d - 1)) _ (hsx.take (m := d - 1) (by omega)) (.inl (Nat.lt_of_lt_of_le HS.out.2 HB1.out.size))
      rw [show feedS (w0s (hdL d) true) (tot [hdL d, []]) 1048576 (x.take (d - 1)) = (w0s (hdL d ++ x.take (d - 1)) true, true) from wf _ _ true (by rw [hxt, hdL_len]; omega)] at HF
      clear hx hsx
      go_wp2_with fail
      refine HF.mono ?_
      rintro e w10 ⟨rfl, A10⟩
      have C10 : Cn (fun k => k < w1.heap.size ∨ k = b) w1 w10 w1.heap.size rs [hdL d ++ x.take (d - 1), []] 1048576 b 0 (w0s (hdL d ++ x.take (d - 1)) true) := A10.1
      clear A10 HF C9
      have hl10 : (hdL d ++ x.take (d - 1)).length ≤ 6144 := by rw [List.length_append, hxt, hdL_len]; omega
      have HX := conext_any C10 hl10 ((HM.out.below HB1.out).below C10.bel)
      rw [wn1 d _ hd1 hd9 (by rw [hxt]; omega)] at HX
      unfold nxV rdNo at HX
      simp only [List.length_nil] at HX
      go_wp2_with fail
      refine HX.mono ?_
      rintro e w11 ⟨fa, ba, fc, bc, rfl, -, -, A11⟩
      have C11 : Cn (fun k => k < w1.heap.size ∨ k = b) w1 w11 w1.heap.size rs [hdL d ++ x.take (d - 1), []] 1048576 b 0 (w0s (hdL d ++ x.take (d - 1)) true) := A11.1
      have C12 := C11.below ((Below.refl _ _).alloc (Nat.le_refl _) (.cells #[.string ⟨#[]⟩, .string ⟨#[]⟩, .int .i64 0, .slice fa 0 fc, .slice ba 0 bc] 43))
      clear A11 HX C10 C11
      go_wp2_with fail
      generalize w11.alloc (.cells #[.string ⟨#[]⟩, .string ⟨#[]⟩, .int .i64 0, .slice fa 0 fc, .slice ba 0 bc] 43) = w12 at *
      refine (cowaits_any C12 hl10 ((HM.out.below HB1.out).below C12.bel)).mono ?_
      rw [ww3]
      rintro e w13 ⟨rfl, A13⟩
      have C13 : Cn (fun k => k < w1.heap.size ∨ k = b) w1 w13 w1.heap.size rs [hdL d ++ x.take (d - 1), []] 1048576 b 0 (w0s (hdL d ++ x.take (d - 1)) true) := A13.1
      clear A13 C12
      have hx : d = x.length := HD.out
      have hsx : Src w13 k0 (.slice (some ⟨k0, off, none⟩) d c0) x := (HS.out.1.below HS.out.2 HB1.out).below (Nat.lt_of_lt_of_le HS.out.2 HB1.out.size) C13.bel
      have HF := cofeed_any C13 k0 (x.drop (d - 1)) _ (hsx.cut (m := d - 1) (a' := some ⟨k0, off + (d - 1), none⟩) (by omega) (fun _ => by rw [Option.map_some, addr_add])) (.inl (Nat.lt_of_lt_of_le HS.out.2 HB1.out.size))
      rw [show feedS (w0s (hdL d ++ x.take (d - 1)) true) (tot [hdL d ++ x.take (d - 1), []]) 1048576 (x.drop (d - 1)) = (w0s (hdL d ++ x) true, true) by
        rw [wf _ _ true (by rw [List.length_append, hxt, hdL_len, List.length_drop]; omega), List.append_assoc, List.take_append_drop]] at HF
      clear hx hsx hl10 hxt
      go_wp2_with fail
      refine HF.mono ?_
      rintro e w14 ⟨rfl, A14⟩
      have C14 : Cn (fun k => k < w1.heap.size ∨ k = b) w1 w14 w1.heap.size rs [hdL d ++ x, []] 1048576 b 0 (w0s (hdL d ++ x) true) := A14.1
      clear A14 HF C13
      have HX := conext_any C14 (by show (hdL d ++ x).length ≤ 6144; have := HD.out; rw [List.length_append, hdL_len]; omega) ((HM.out.below HB1.out).below C14.bel)
      rw [wn2 d x hd1 hd9 HD.out.symm] at HX
      unfold nxV at HX
      simp only at HX
      rw [show (fs9 d).length = 3 from rfl, show x.length = d from HD.out.symm] at HX
      go_wp2_with fail
      refine HX.mono ?_
      rintro e w15 ⟨fa2, ba2, fc2, bc2, rfl, -, O15, A15⟩
      have C15 : Cn (fun k => k < w1.heap.size ∨ k = b) w1 w15 w1.heap.size rs [[], []] 1048576 b 0 (⟨[], [], 0, true, false, false⟩) := A15.1
      have U16 : Below w15.heap.size w15 (w15.alloc (.cells #[.string ⟨#[80, 85, 84]⟩, .string ⟨#[47]⟩, .int .i64 1, .slice fa2 3 fc2, .slice ba2 d bc2] 43)) := (Below.refl _ _).alloc (Nat.le_refl _) _
      have C16 := C15.below U16
      have y4 := tblk_cell (i := 4) (tblk_new w15 (.cells #[.string ⟨#[80, 85, 84]⟩, .string ⟨#[47]⟩, .int .i64 1, .slice fa2 3 fc2, .slice ba2 d bc2] 43)) rfl
      obtain ⟨kx, sx, hkx⟩ := (O15.keep U16).src
      have hsx : Src (w15.alloc (.cells #[.string ⟨#[80, 85, 84]⟩, .string ⟨#[47]⟩, .int .i64 1, .slice fa2 3 fc2, .slice ba2 d bc2] 43)) k0 (.slice (some ⟨k0, off, none⟩) d c0) x := (HS.out.1.below HS.out.2 HB1.out).below (Nat.lt_of_lt_of_le HS.out.2 HB1.out.size) C16.bel
      have HQ := sameBytes_eq x kx k0 _ _ _ sx hsx
      clear A15 HX C14 C15 O15 U16 sx hkx hsx
      go_wp2_with fail
      refine HQ.mono ?_
      rintro e w17 ⟨rfl, B17⟩
      have C17 := C16.below B17
      clear HQ B17 C16 y4
      go_wp2_with fail
      refine (cowaits_any C17 (Nat.zero_le _) ((HM.out.below HB1.out).below C17.bel)).mono ?_
      rw [wb]
      rintro e w18 ⟨rfl, A18⟩
      have C18 : Cn (fun k => k < w1.heap.size ∨ k = b) w1 w18 w1.heap.size rs [[], []] 1048576 b 0 (⟨[], [], 0, true, false, false⟩) := A18.1
      clear A18 C17
      go_wp2_with fail
      refine (cosay_any C18 0 [] (.slice none 0 0) false ⟨none, 0, rfl, Nat.le_refl _, Nat.zero_le _, fun h => absurd h (Nat.lt_irrefl 0)⟩ (.inl ((HM.out.below HB1.out).pos)) (by omega)).mono ?_
      rw [wsay]
      rintro e w19 ⟨rfl, A19⟩
      have C19 : Hid (Cn (fun k => k < w1.heap.size ∨ k = b) w1 w19 w1.heap.size rs [[], []] 1048576 b 0 (w0s [] false)) := A19.1
      clear A19 C18
      go_wp2
      go_roundw
      case rel => exact ⟨i + 1, by omega, by go_num, C19⟩
      case measure => simp [intOf]; omega
    · have k1 : ¬ (i : Int) < n := by omega
      have C := HC.out
      clear HC
      go_wp2_with fail
      refine (cobusy_any C).mono ?_
      rintro e w' ⟨rfl, hw⟩
      rw [hw]
      clear hw
      go_wp2_with fail
      refine (coheld_any C).mono ?_
      rintro e w5 ⟨rfl, B5⟩
      have HE : Hid (Below w.heap.size w w5) := (HB1.out.trans (C.bel.mono HB1.out.size)).trans (B5.mono (Nat.le_trans HB1.out.size C.bel.size))
      clear C B5
      go_wp2
      go_ret
      exact ⟨rfl, HE.out⟩
end Go.Proofs.YtemmmdhmkegaaaaGreatDoor

/- Whatever the two numbers and the bytes, ConnWaits answers true: whoever waits to be told to go on is told once for each request; no condition. -/
namespace Go.Proofs.YtemmmdhmkegaaaaGreatDoor.connWaits
open Go.ChangeShapes Go.WideShapes Go.ChangeAt Go.RowKit
open Go.ChangeMaps (open_string shut_string)
set_option linter.unusedVariables false

theorem own : ownKnob Tryz.prog.godebug = none := by kernel_rfl
theorem laidOut : laidOutB Tryz.prog = true := by kernel_rfl
theorem maxL_of {W : World} (hsh : W.ShapedOpen Tryz.prog) : MaxL W :=
  cell_of_shapedOpen_int (P := Tryz.prog) (g := 0) (t := 3) (zero := #[.int .i64 0]) hsh (of_decide_eq_true (by kernel_rfl)) (by kernel_rfl) rfl (by kernel_rfl) (by kernel_rfl) Tryz.underlying3
noncomputable def laidWorld (os : Os) : World := World.laidAll Tryz.prog os Rows.connWaitsRow.laid
theorem laid_met (os : Os) : laidMetH Tryz.prog Rows.connWaitsRow.laid ((laidWorld os).forCall (fun _ _ => 0) ⟨#[], #[.int .i64 0, .int .i64 0, .slice none 0 0], []⟩).memory := by
  rw [MakeChecks.laidMetH_plain _ _ _ (by kernel_rfl)]
  exact laidMet_laidAll _ (by kernel_rfl) (by kernel_rfl)
set_option maxRecDepth 100000 in
theorem lifted (os : Os) (started : os.Started) (H : Type) (enc : TypeId × Value → H) (F : Stop.Interp) :
    ReturnsInHanded {} Tryz.checked os 6 .any ((OpenSpec.ofChange Rows.connWaitsSpec).preRow enc Tryz.prog Tryz.f6 Rows.connWaitsRow.domain false Rows.connWaitsRow.laid) (((OpenSpec.ofChange Rows.connWaitsSpec).at F).post enc Tryz.prog Tryz.f6 false true false false) := by
  obtain ⟨places, hx⟩ := (⟨[], by kernel_rfl⟩ : ∃ places, DataW.whole enc Tryz.prog ((laidWorld os).forCall (fun _ _ => 0) ⟨#[], #[.int .i64 0, .int .i64 0, .slice none 0 0], []⟩).memory Tryz.f6.params.toList Rows.connWaitsSpec.vars false (#[.int .i64 0, .int .i64 0, .slice none 0 0] : Array Value).toList 8 = some ([.lit (.int .i64 0), .lit (.int .i64 0), .nil], [], places))
  refine returnsInHanded_of_row (C := Tryz.checked) (s := OpenSpec.ofChange Rows.connWaitsSpec) own started (by kernel_rfl) Tryz.func6
    (witness_row_atRef (enc := enc) (C := Tryz.checked) false (laidWorld os) #[.int .i64 0, .int .i64 0, .slice none 0 0] rfl (by kernel_rfl) (by kernel_rfl) (by kernel_rfl)
      (OpenSpec.preRow_of_cond 8 hx (by kernel_rfl) (fun k hk => by cases hk) (by kernel_rfl) (laid_met os))) ?_
  intro W base args ds gs before hval0 hW _ hcond hsz hlaid hsh _
  have hM := maxL_of hsh
  clear hsh
  have hval : ∀ (j : Nat) t v, Tryz.f6.params[j]? = some t → args[j]? = some v → Value.okWide Tryz.prog W .any base t v := hval0
  have hW' := hW
  obtain ⟨p, q, hA0, hV, rfl, hfz, hnd⟩ := hW
  have hA : DataW.TrodAll enc Tryz.prog W 0 (fun _ => true) true Tryz.f6.params.toList args.toList ds p := hA0
  rw [Tryz.params6] at hA hval
  obtain ⟨v0, vs0, d0, ds0, p0, q0, hargs, rfl, rfl, h0, r0⟩ := trodAll_cons hA
  obtain ⟨v1, vs1, d1, ds1, p1, q1, rfl, rfl, rfl, h1, r1⟩ := trodAll_cons r0
  obtain ⟨v2, vs2, d2, ds2, p2, q2, rfl, rfl, rfl, h2, r2⟩ := trodAll_cons r1
  obtain ⟨rfl, rfl, rfl⟩ := trodAll_nil r2
  obtain rfl : args = #[v0, v1, v2] := by cases args; simp_all
  obtain ⟨rfl, rfl⟩ := trodVars_none hV
  obtain ⟨a0, rfl, rfl, rfl, w0⟩ := open_int Tryz.underlying3 (hval 0 3 v0 rfl rfl) h0
  obtain ⟨a1, rfl, rfl, rfl, w1⟩ := open_int Tryz.underlying3 (hval 1 3 v1 rfl rfl) h1
  obtain ⟨a2, len2, cap2, rfl⟩ := okWide_slice Tryz.underlying31 (hval 2 31 v2 rfl rfl)
  have k2 := h2
  have lt2 : ∀ x ∈ p2, x.block < W.heap.size := by obtain ⟨m, hm⟩ := k2; exact DataW.trod_lt m _ _ _ hm
  obtain ⟨kb2, b2, w2, hk2, hn2⟩ := open_bytes h2
  clear hA0 hval0
  refine (waits18_walk a0 a1 kb2 len2 cap2 a2 b2 W w2 hk2 hM).mono fun e W' ⟨he, bel⟩ => ?_
  subst he
  exact ⟨_, rfl, _, _, _, [], _, [], hW', trodAll_mk1 (shut_bool Tryz.underlying4 _), (trodAll_cons_mk (shut_int Tryz.underlying3 w0) (trodAll_cons_mk (shut_int Tryz.underlying3 w1) (trodAll_cons_mk (Below.trod laidOut (by kernel_rfl) (of_decide_eq_true (by kernel_rfl)) k2 bel lt2) trodAll_mk0))), rfl, bel.frame _, fun h => by cases h⟩

theorem over : Rows.ConnWaitsSaid :=
  OpenClaim.holds_of_cond 6 Tryz.f6 rfl rfl rfl rfl rfl rfl rfl ⟨rfl, rfl, rfl, rfl, rfl⟩ rfl rfl rfl rfl rfl (by kernel_rfl) Tryz.func6 (by kernel_rfl)
    (of_decide_eq_true (by kernel_rfl)) (by unfold Func.isWrapper; first | (rw [if_pos (by decide +kernel)]; kernel_rfl) | (rw [if_neg (by decide +kernel)]; exact ⟨rfl, rfl⟩))
    (fun os started H enc _ F => by rw [OpenClaim.pre_eq_preRow]; exact lifted os started H enc F)

end Go.Proofs.YtemmmdhmkegaaaaGreatDoor.connWaits
namespace Go.Proofs.YtemmmdhmkegaaaaGreatDoor
/-- The statement: the tied card. -/
theorem connWaits_holds : Rows.ConnWaitsCardSaid :=
  Claim7.holds_tied_plain_at .later [] _ _ _ _
    connWaits.over (fun _ h => by cases h) (by kernel_rfl) (fun _ h => by cases h) connWaits_row_tie rfl ⟨rfl, rfl⟩ (by kernel_rfl) rfl
    (fun f fn hf hfn => by
      obtain rfl : f = 6 := Option.some.inj ((show Tryz.prog.funcNamed "tollbar/tollbarlaw18.ConnWaits" = some 6 by kernel_rfl).symm.trans hf) |>.symm
      obtain rfl : fn = Tryz.f6 := (Option.some.inj (Tryz.func6.symm.trans hfn)).symm
      exact ⟨by kernel_rfl, fun j t ht => by
        rw [Tryz.params6] at ht
        have hm : t ∈ [3, 3, 31] := by simpa using Array.mem_of_getElem? ht
        have hall : ([3, 3, 31].all fun u => !Tryz.prog.wantsStandIn u) = true := by kernel_rfl
        exact (show Tryz.prog.wantsStandIn t = false by simpa using List.all_eq_true.1 hall t hm)⟩)
    (by kernel_rfl)
#print axioms connWaits_holds
end Go.Proofs.YtemmmdhmkegaaaaGreatDoor
