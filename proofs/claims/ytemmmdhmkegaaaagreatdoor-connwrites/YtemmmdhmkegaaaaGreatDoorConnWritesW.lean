/- Whatever is said, whatever the windows and the writes, ConnWrites answers true: what is said is written, in its order, never more than the window, and the meter holds what is left; no condition. -/
import Derived.Test.YtemmmdhmkegaaaaGreatDoorCb5
import Derived.Test.YtemmmdhmkegaaaaGreatDoorCb2
import Derived.ProofKit
import Derived.OpenShut
import Derived.Deep.Slices
import Derived.Deep.Matrix
import Derived.Test.YtemmmdhmkegaaaaGreatDoorRows
import Derived.Test.YtemmmdhmkegaaaaGreatDoorCards
import Derived.Test.YtemmmdhmkegaaaaGreatDoorTie
import Derived.WalkKit
import Derived.ShutString
import Derived.ChangeOld
import Derived.Below
import Derived.LaidMore
import Derived.Lay
import Derived.Stop.Joined
import Derived.SevenTiedAt
import Derived.Shelf.Vars
import Derived.Deep.DeepHandedRow
import Derived.Deep.DeepWitnessRowRef
/- ConnCloses: the walk. -/
namespace Go.Proofs.YtemmmdhmkegaaaaGreatDoor
open Go.RowKit
set_option linter.unusedVariables false

theorem MaxL.pos {w : World} (h : MaxL w) : 0 < w.heap.size := by
  obtain ⟨m, h⟩ := h
  rcases Nat.eq_zero_or_pos w.heap.size with e | e
  · have : w.heap = #[] := Array.eq_empty_of_size_eq_zero e
    simp [World.cell?, this] at h
  · exact e
/-- Bytes that came in lie below. -/
theorem Src.low {w : World} {k : Nat} {v : Value} {x : List UInt8} (h : Src w k v x) (hk : 0 < x.length → k < w.heap.size) (hM : MaxL w) : ∃ k', k' < w.heap.size ∧ Src w k' v x := by
  obtain ⟨k', c, s⟩ := h.any (g := 0) hk
  refine ⟨k', ?_, s⟩
  rcases c with c | c
  · exact c
  · rw [c]; exact hM.pos
def b58 : List UInt8 := [71, 69, 84, 32, 47, 32, 72, 84, 84, 80, 47, 49, 46, 49, 13, 10, 72, 111, 115, 116, 58, 32, 97, 13, 10, 13, 10, 71, 69, 84, 32, 47, 110, 101, 120, 116, 32, 72, 84, 84, 80, 47, 49, 46, 49, 13, 10, 72, 111, 115, 116, 58, 32, 97, 13, 10, 13, 10]
def b31 : List UInt8 := [71, 69, 84, 32, 47, 110, 101, 120, 116, 32, 72, 84, 84, 80, 47, 49, 46, 49, 13, 10, 72, 111, 115, 116, 58, 32, 97, 13, 10, 13, 10]
def r31 : Rd := ⟨⟨#[71, 69, 84]⟩, ⟨#[47, 110, 101, 120, 116]⟩, 1, [(⟨#[72, 111, 115, 116]⟩, ⟨#[97]⟩)], [], 31, 0⟩
theorem req58 : reqQ b58 = r29 := by kernel_rfl
theorem req31 : reqQ b31 = r31 := by kernel_rfl
theorem cl_feed : feedS newS (tot [[], []]) 1048576 b58 = (⟨b58, [], 0, false, false, false⟩, true) := by kernel_rfl
theorem cl_next1 : nextS ⟨b58, [], 0, false, false, false⟩ = (⟨b31, [], 0, true, false, false⟩, r29, 0) := by unfold nextS; rw [show reqQ b58 = r29 from req58]; kernel_rfl
theorem cl_next2 (f : List UInt8) : nextS ⟨b31, f, 0, false, false, false⟩ = (⟨[], f, 0, true, false, false⟩, r31, 0) := by
  unfold nextS
  simp only [Bool.false_eq_true, if_false]
  rw [show reqQ b31 = r31 from req31]
  rfl
theorem tot2 (a c : List UInt8) : tot [a, c] = a.length + c.length := by simp [tot]
theorem cl_say1 (f : List UInt8) (h : f.length ≤ 1000) : sayS ⟨b31, [], 0, true, false, false⟩ (tot [b31, []]) 1048576 f false = (⟨b31, f, 0, false, false, false⟩, true) := by
  unfold sayS noteS say2
  rw [tot2]
  simp only [Bool.false_eq_true, if_false, List.length_nil, List.nil_append]
  rw [if_pos (by have : b31.length = 31 := rfl; omega)]
theorem cl_feed2 (f mo : List UInt8) (h : f.length ≤ 1000) (k : mo.length ≤ 1000) : feedS ⟨[], f, 0, true, false, false⟩ (tot [[], f]) 1048576 mo = (⟨mo, f, 0, true, false, false⟩, true) := by
  unfold feedS
  rw [tot2, if_neg (by simp), if_pos (by simp; omega)]
  rfl
theorem cl_say2 (f l mo : List UInt8) (h : f.length ≤ 1000) (k : l.length ≤ 1000) : sayS ⟨mo, f, 0, true, false, false⟩ (tot [mo, f]) 1048576 l true = (⟨[], f ++ l, 0, false, false, true⟩, true) := by
  unfold sayS noteS say2 shutS
  rw [tot2]
  simp only [Bool.false_eq_true, if_false, if_true, List.length_nil]
  rw [if_pos (by omega)]
theorem cl_feed3 (x mo : List UInt8) : feedS ⟨[], x, 0, false, false, true⟩ (tot [[], x]) 1048576 mo = (⟨[], x, 0, false, false, true⟩, true) := rfl
theorem cl_wait (x : List UInt8) : waitS ⟨[], x, 0, false, false, true⟩ = (⟨[], x, 0, false, false, true⟩, false) := rfl
theorem cl_next3 (x : List UInt8) : nextS ⟨[], x, 0, false, false, true⟩ = (⟨[], x, 0, false, false, true⟩, rdNo 0, -1) := rfl
theorem cl_win (x : List UInt8) (h : x.length ≤ 2000) : windowS ⟨[], x, 0, false, false, true⟩ x.length = ⟨[], x, x.length, false, false, true⟩ := by
  unfold windowS
  simp only [Cs.mk.injEq, true_and, and_true]
  omega
theorem cl_n (x : List UInt8) (h : x.length ≤ 2000) : writeN ⟨[], x, x.length, false, false, true⟩ 1073741824 = x.length := by
  unfold writeN wantS
  simp only
  omega
theorem cl_write (x : List UInt8) (h : x.length ≤ 2000) : writeS ⟨[], x, x.length, false, false, true⟩ 1073741824 = ⟨[], [], 0, false, false, true⟩ := by
  unfold writeS
  rw [cl_n x h]
  simp only [List.drop_length, Int.sub_self]
set_option maxRecDepth 100000 in
set_option maxHeartbeats 4000000 in
theorem closes18_walk (k0 n0 c0 : Nat) (a0 : Option Addr) (f : List UInt8) (k1 n1 c1 : Nat) (a1 : Option Addr) (l : List UInt8) (k2 n2 c2 : Nat) (a2 : Option Addr) (mo : List UInt8) (w : World)
    (h0 : Src w k0 (.slice a0 n0 c0) f) (q0 : 0 < f.length → k0 < w.heap.size) (z0 : a0 = none → c0 = 0) (h1 : Src w k1 (.slice a1 n1 c1) l) (q1 : 0 < l.length → k1 < w.heap.size) (z1 : a1 = none → c1 = 0)
    (h2 : Src w k2 (.slice a2 n2 c2) mo) (q2 : 0 < mo.length → k2 < w.heap.size) (hM : MaxL w) :
    Calls Tryz.prog 7 #[.slice a0 n0 c0, .slice a1 n1 c1, .slice a2 n2 c2] w fun e w' => e = .returned (.bool true) ∧ Below w.heap.size w w' := by
  obtain ⟨k0', p0, s0⟩ := h0.low q0 hM
  obtain ⟨k1', p1, s1⟩ := h1.low q1 hM
  obtain ⟨k2', p2, s2⟩ := h2.low q2 hM
  obtain ⟨e0, _, _⟩ := h0.len
  obtain ⟨e1, _, _⟩ := h1.len
  obtain ⟨e2, _, _⟩ := h2.len
  subst e0 e1 e2
  have S0 : Hid (Src w k0' (.slice a0 f.length c0) f) := s0
  have S1 : Hid (Src w k1' (.slice a1 l.length c1) l) := s1
  have S2 : Hid (Src w k2' (.slice a2 mo.length c2) mo) := s2
  have HM : Hid (MaxL w) := hM
  have HA := alive18_any w hM
  clear hM h0 h1 h2 q0 q1 q2 s0 s1 s2
  by_cases g0 : 1000 < f.length
  · clear S0 S1 S2
    generalize f.length = n at *
    go_enter Tryz.func7, Tryz.ntmps7
    go_wp2_with fail
    refine HA.mono ?_
    rintro e w1 ⟨rfl, B1⟩
    go_wp2
    go_ret
    exact ⟨rfl, B1⟩
  by_cases g1 : 1000 < l.length
  · clear S0 S1 S2
    generalize f.length = n at *
    generalize l.length = n1 at *
    go_enter Tryz.func7, Tryz.ntmps7
    go_wp2_with fail
    refine HA.mono ?_
    rintro e w1 ⟨rfl, B1⟩
    go_wp2
    go_ret
    exact ⟨rfl, B1⟩
  by_cases g2 : 1000 < mo.length
  · clear S0 S1 S2
    generalize f.length = n at *
    generalize l.length = n1 at *
    generalize mo.length = n2 at *
    go_enter Tryz.func7, Tryz.ntmps7
    go_wp2_with fail
    refine HA.mono ?_
    rintro e w1 ⟨rfl, B1⟩
    go_wp2
    go_ret
    exact ⟨rfl, B1⟩
  have hf : f.length ≤ 1000 := by omega
  have hl : l.length ≤ 1000 := by omega
  have hm : mo.length ≤ 1000 := by omega
  go_enter Tryz.func7, Tryz.ntmps7
  go_wp2_with fail
  refine HA.mono ?_
  rintro e w1 ⟨rfl, B1⟩
  clear HA
  have HMB : Hid (∀ W, Below w1.heap.size w1 W → MaxL W) := fun W b => (HM.out.below B1).below b
  have S0 : Hid (∀ W, Below w1.heap.size w1 W → Src W k0' (.slice a0 f.length c0) f ∧ k0' < w1.heap.size) := fun W b => ⟨(S0.out.below p0 B1).below (Nat.lt_of_lt_of_le p0 B1.size) b, Nat.lt_of_lt_of_le p0 B1.size⟩
  have S1 : Hid (∀ W, Below w1.heap.size w1 W → Src W k1' (.slice a1 l.length c1) l ∧ k1' < w1.heap.size) := fun W b => ⟨(S1.out.below p1 B1).below (Nat.lt_of_lt_of_le p1 B1.size) b, Nat.lt_of_lt_of_le p1 B1.size⟩
  have S2 : Hid (∀ W, Below w1.heap.size w1 W → Src W k2' (.slice a2 mo.length c2) mo ∧ k2' < w1.heap.size) := fun W b => ⟨(S2.out.below p2 B1).below (Nat.lt_of_lt_of_le p2 B1.size) b, Nat.lt_of_lt_of_le p2 B1.size⟩
  have HB1 : Hid (Below w.heap.size w w1) := B1
  clear B1 HM
  obtain ⟨fn, hfn⟩ : ∃ n, n = f.length := ⟨_, rfl⟩
  obtain ⟨ln, hln⟩ : ∃ n, n = l.length := ⟨_, rfl⟩
  obtain ⟨mn, hmn⟩ : ∃ n, n = mo.length := ⟨_, rfl⟩
  rw [← hfn] at S0 ⊢
  rw [← hln] at S1 ⊢
  rw [← hmn] at S2 ⊢
  have y0 : ¬ (1000 : Int) < fn := by omega
  have y1 : ¬ (1000 : Int) < ln := by omega
  have y2 : ¬ (1000 : Int) < mn := by omega
  have HF : Hid (fn = f.length ∧ f.length ≤ 1000) := ⟨hfn, hf⟩
  have HL : Hid (ln = l.length ∧ l.length ≤ 1000) := ⟨hln, hl⟩
  have HN : Hid (mn = mo.length ∧ mo.length ≤ 1000) := ⟨hmn, hm⟩
  clear g0 g1 g2 hf hl hm hfn hln hmn
  go_wp2_with fail
  refine (new_any 1048576 _).mono ?_
  rintro e w2 ⟨rfl, hw2⟩
  have M0 : Many (fun k => k < w1.heap.size) w1 w2 w1.heap.size [] [] 1048576 0 := by rw [hw2]; exact isM_start 1048576 (by decide) (by decide)
  clear hw2 y0 y1 y2
  go_wp2_with fail
  refine (conew_any M0).mono ?_
  rintro e w3 ⟨b, rs, rfl, hb, C0, hrl, B0⟩
  have hb1 : w1.heap.size < b := by have := M0.isM.lt; omega
  have C3 : Cn (fun k => k < w1.heap.size ∨ k = b) w1 w3 w1.heap.size rs [[], []] 1048576 b 0 newS := C0
  clear C0 M0 B0 hb
  have hcs := fun C : Array Value => conv_same w3 C 58 58
  go_wp2_with fail
  refine (cofeed_new C3 ((Below.refl _ _).alloc (Nat.le_refl _) _) w3.heap.size b58 _ (lit_src w3 b58 58 _ _ rfl (by decide) rfl) (.inr ⟨Nat.le_refl _, by simp⟩)).mono ?_
  rw [cl_feed]
  rintro e w4 ⟨rfl, A4⟩
  have C4 : Cn (fun k => k < w1.heap.size ∨ k = b) w1 w4 w1.heap.size rs [b58, []] 1048576 b 0 ⟨b58, [], 0, false, false, false⟩ := A4.1
  clear A4 C3 hcs
  have HX := conext_any C4 (by decide) (HMB.out _ C4.bel)
  rw [cl_next1] at HX
  unfold nxV r29 at HX
  simp only at HX
  go_wp2_with fail
  refine HX.mono ?_
  rintro e w5 ⟨fa, ba, fc, bc, rfl, -, -, A5⟩
  have C5 : Cn (fun k => k < w1.heap.size ∨ k = b) w1 w5 w1.heap.size rs [b31, []] 1048576 b 0 ⟨b31, [], 0, true, false, false⟩ := A5.1
  clear HX A5 C4
  have C6 := C5.below ((Below.refl _ _).alloc (Nat.le_refl _) (.cells #[.string ⟨#[71, 69, 84]⟩, .string ⟨#[47]⟩, .int .i64 1, .slice fa 1 fc, .slice ba 0 bc] 43))
  clear C5
  go_wp2_with fail
  generalize w5.alloc (.cells #[.string ⟨#[71, 69, 84]⟩, .string ⟨#[47]⟩, .int .i64 1, .slice fa 1 fc, .slice ba 0 bc] 43) = w6 at *
  obtain ⟨s0, p0'⟩ := S0.out w6 C6.bel
  refine (cosay_any C6 k0' f _ false s0 (.inl p0') (by omega)).mono ?_
  rw [cl_say1 f HF.out.2]
  rintro e w7 ⟨rfl, A7⟩
  have C7 : Cn (fun k => k < w1.heap.size ∨ k = b) w1 w7 w1.heap.size rs [b31, f] 1048576 b 0 ⟨b31, f, 0, false, false, false⟩ := A7.1
  clear A7 C6 s0 p0'
  have HX := conext_any C7 (show b31.length ≤ 6144 by decide) (HMB.out _ C7.bel)
  rw [cl_next2] at HX
  unfold nxV r31 at HX
  simp only at HX
  go_wp2_with fail
  refine HX.mono ?_
  rintro e w8 ⟨fa8, ba8, fc8, bc8, rfl, -, -, A8⟩
  have C8 : Cn (fun k => k < w1.heap.size ∨ k = b) w1 w8 w1.heap.size rs [[], f] 1048576 b 0 ⟨[], f, 0, true, false, false⟩ := A8.1
  clear HX A8 C7
  have C9 := C8.below ((Below.refl _ _).alloc (Nat.le_refl _) (.cells #[.string ⟨#[71, 69, 84]⟩, .string ⟨#[47, 110, 101, 120, 116]⟩, .int .i64 1, .slice fa8 1 fc8, .slice ba8 0 bc8] 43))
  clear C8
  go_wp2_with fail
  generalize w8.alloc (.cells #[.string ⟨#[71, 69, 84]⟩, .string ⟨#[47, 110, 101, 120, 116]⟩, .int .i64 1, .slice fa8 1 fc8, .slice ba8 0 bc8] 43) = w9 at *
  obtain ⟨s2, p2'⟩ := S2.out w9 C9.bel
  refine (cofeed_any C9 k2' mo _ s2 (.inl p2')).mono ?_
  rw [cl_feed2 f mo HF.out.2 HN.out.2]
  rintro e w10 ⟨rfl, A10⟩
  have C10 : Cn (fun k => k < w1.heap.size ∨ k = b) w1 w10 w1.heap.size rs [mo, f] 1048576 b 0 ⟨mo, f, 0, true, false, false⟩ := A10.1
  clear A10 C9 s2 p2'
  go_wp2_with fail
  obtain ⟨s1, p1'⟩ := S1.out w10 C10.bel
  refine (cosay_any C10 k1' l _ true s1 (.inl p1') (by omega)).mono ?_
  rw [cl_say2 f l mo HF.out.2 HL.out.2]
  rintro e w11 ⟨rfl, A11⟩
  have C11 : Cn (fun k => k < w1.heap.size ∨ k = b) w1 w11 w1.heap.size rs [[], f ++ l] 1048576 b 0 ⟨[], f ++ l, 0, false, false, true⟩ := A11.1
  clear A11 C10 s1 p1'
  go_wp2_with fail
  obtain ⟨s2, p2'⟩ := S2.out w11 C11.bel
  refine (cofeed_any C11 k2' mo _ s2 (.inl p2')).mono ?_
  rw [cl_feed3]
  rintro e w12 ⟨rfl, A12⟩
  have C12 : Cn (fun k => k < w1.heap.size ∨ k = b) w1 w12 w1.heap.size rs [[], f ++ l] 1048576 b 0 ⟨[], f ++ l, 0, false, false, true⟩ := A12.1
  clear A12 C11 s2 p2'
  have hxl : (((⟨[], f ++ l, 0, false, false, true⟩ : Cs).li.length + (⟨[], f ++ l, 0, false, false, true⟩ : Cs).lo.length : Nat) : Int) = (fn : Int) + ln := by
    obtain ⟨x1, x2⟩ := HF.out
    obtain ⟨x3, x4⟩ := HL.out
    simp only [List.length_append, List.length_nil]
    omega
  have y3 : (fn : Int) + ln ≤ 2000 := by have := HF.out; have := HL.out; omega
  have HQ := coheld_any C12
  rw [hxl] at HQ
  go_wp2_with fail
  refine HQ.mono ?_
  rintro e w13 ⟨rfl, B13⟩
  have C13 := C12.below B13
  clear HQ C12 B13
  obtain ⟨p, HK⟩ := C13.many
  have HD := held_q w1.heap.size 1048576 _ p w13 HK.isM
  rw [show (((tot [[], f ++ l] : Nat)) : Int) = (fn : Int) + ln by rw [tot2]; exact hxl] at HD
  clear HK
  go_wp2_with fail
  refine HD.mono ?_
  rintro e w' ⟨rfl, hw⟩
  rw [hw]
  clear hw HD
  have HQ := coheld_any C13
  rw [hxl] at HQ
  go_wp2_with fail
  refine HQ.mono ?_
  rintro e w14 ⟨rfl, B14⟩
  have C14 := C13.below B14
  clear HQ C13 B14
  go_wp2_with fail
  refine (cowaits_any C14 (Nat.zero_le _) (HMB.out _ C14.bel)).mono ?_
  rw [cl_wait]
  rintro e w15 ⟨rfl, A15⟩
  have C15 : Cn (fun k => k < w1.heap.size ∨ k = b) w1 w15 w1.heap.size rs [[], f ++ l] 1048576 b 0 ⟨[], f ++ l, 0, false, false, true⟩ := A15.1
  clear A15 C14
  have HX := conext_any C15 (Nat.zero_le _) (HMB.out _ C15.bel)
  rw [cl_next3] at HX
  unfold nxV rdNo at HX
  simp only [List.length_nil] at HX
  go_wp2_with fail
  refine HX.mono ?_
  rintro e w16 ⟨fa16, ba16, fc16, bc16, rfl, -, -, A16⟩
  have C16 : Cn (fun k => k < w1.heap.size ∨ k = b) w1 w16 w1.heap.size rs [[], f ++ l] 1048576 b 0 ⟨[], f ++ l, 0, false, false, true⟩ := A16.1
  clear HX A16 C15
  have C17 := C16.below ((Below.refl _ _).alloc (Nat.le_refl _) (.cells #[.string ⟨#[]⟩, .string ⟨#[]⟩, .int .i64 0, .slice fa16 0 fc16, .slice ba16 0 bc16] 43))
  clear C16
  go_wp2_with fail
  generalize w16.alloc (.cells #[.string ⟨#[]⟩, .string ⟨#[]⟩, .int .i64 0, .slice fa16 0 fc16, .slice ba16 0 bc16] 43) = w17 at *
  refine (coclosing_any C17).mono ?_
  rintro e w' ⟨rfl, hw⟩
  rw [hw]
  clear hw
  have hlen : (((f ++ l).length : Nat) : Int) = (fn : Int) + ln := by rw [← hxl]; simp
  have h2k : (f ++ l).length ≤ 2000 := by omega
  have hw18 : windowS ⟨[], f ++ l, 0, false, false, true⟩ ((fn : Int) + ln) = ⟨[], f ++ l, ((f ++ l).length : Nat), false, false, true⟩ := by rw [← hlen]; exact cl_win _ h2k
  have H18 := cowindow_any C17 ((fn : Int) + ln)
  rw [hw18] at H18
  have HLEN : Hid ((((f ++ l).length : Nat) : Int) = (fn : Int) + ln ∧ (f ++ l).length ≤ 2000) := ⟨hlen, h2k⟩
  clear hlen h2k hw18 hxl
  go_wp2_with fail
  refine H18.mono ?_
  rintro e w18 ⟨rfl, A18⟩
  have C18 : Cn (fun k => k < w1.heap.size ∨ k = b) w1 w18 w1.heap.size rs [[], f ++ l] 1048576 b 0 ⟨[], f ++ l, ((f ++ l).length : Nat), false, false, true⟩ := A18.1
  clear A18 C17 H18
  have H19 := cowrite_any C18 1073741824
  rw [cl_n _ HLEN.out.2, cl_write _ HLEN.out.2] at H19
  go_wp2_with fail
  refine H19.mono ?_
  rintro e w19 ⟨g, rfl, hg, hrow, A19⟩
  have C19 : Cn (fun k => k < w1.heap.size ∨ k = b) w1 w19 w1.heap.size rs [[], []] 1048576 b 0 ⟨[], [], 0, false, false, true⟩ := A19.1.weak (fun _ h => .inl h) C18.own
  rw [List.take_length] at hrow
  have hgl := heap_lt hrow
  have SX := src_row hrow rfl (Nat.le_trans HLEN.out.2 (by decide))
  clear A19 C18 H19 hrow
  have U0 : Below w19.heap.size w19 (w19.alloc (.cells #[] 5)) := (Below.refl _ _).alloc (Nat.le_refl _) _
  obtain ⟨s0, p0'⟩ := S0.out _ (C19.bel.trans (U0.mono C19.bel.size))
  obtain ⟨v1, w20, r20, O20, B20⟩ := own_append (Own.empty w19.heap.size w19 (Nat.le_refl _)) s0 z0 (by have := HF.out; simp only [List.length_nil]; omega) U0.size
  have D20 := U0.trans B20
  obtain ⟨s1, p1'⟩ := S1.out _ (C19.bel.trans (D20.mono C19.bel.size))
  obtain ⟨v2, w21, r21, O21, B21⟩ := own_append O20 s1 z1 (by have := HF.out; have := HL.out; simp only [List.nil_append]; omega) D20.size
  have D21 := D20.trans B21
  have R20 : Hid _ := r20
  have R21 : Hid _ := r21
  obtain ⟨kx, sx, -⟩ := O21.src
  have HS := sameBytes_eq (f ++ l) g kx _ v2 w21 (SX.below hgl D21) sx
  have C21 := C19.below D21
  clear r20 r21 U0 s0 p0' B20 s1 p1' O20 O21 B21 SX sx C19 D20 D21 S0 S1 S2
  generalize (f ++ l).length = xl at *
  go_wp2_with (first | (at_builtin; refine wpList_append_run2 rfl _ _ 31 31 rfl _ _ _ w20 rfl rfl R20.out ?_) | (at_builtin; refine wpList_append_run2 rfl _ _ 31 31 rfl _ _ _ w21 rfl rfl R21.out ?_))
  refine HS.mono ?_
  rintro e w22 ⟨rfl, B22⟩
  have C22 := C21.below B22
  clear HS C21 B22 R20 R21
  go_wp2_with fail
  refine (codone_any C22).mono ?_
  rw [show doneS ⟨[], [], 0, false, false, true⟩ = true from rfl]
  rintro e w' ⟨rfl, hw⟩
  rw [hw]
  clear hw
  obtain ⟨p, HK⟩ := C22.many
  have HD := held_q w1.heap.size 1048576 _ p w22 HK.isM
  rw [show (((tot [[], []] : Nat)) : Int) = 0 from rfl] at HD
  clear HK
  go_wp2_with fail
  refine HD.mono ?_
  rintro e w' ⟨rfl, hw⟩
  rw [hw]
  clear hw HD
  go_wp2_with fail
  refine (cowant_any C22).mono ?_
  rw [show wantS ⟨[], [], 0, false, false, true⟩ = 0 from rfl]
  rintro e w23 ⟨rfl, B23⟩
  have C23 := C22.below B23
  have HE : Hid (Below w.heap.size w w23) := HB1.out.trans (C23.bel.mono HB1.out.size)
  clear C22 C23 B23
  go_wp2
  go_ret
  exact ⟨rfl, HE.out⟩
end Go.Proofs.YtemmmdhmkegaaaaGreatDoor

/- Numbers that came in. -/
namespace Go.Proofs.YtemmmdhmkegaaaaGreatDoor
open Go.ChangeShapes Go.WideShapes Go.ChangeAt Go.RowKit
set_option linter.unusedVariables false

def Nums (w : World) (a : Option Addr) (len : Nat) : Prop := len ≤ maxLen ∧ (0 < len → ∃ b off, a = some ⟨b, off, none⟩ ∧ b < w.heap.size ∧ ∀ i, i < len → ∃ z, w.cell? ⟨b, off + i, none⟩ = some (.int .i64 z))
theorem open_nums {H : Type} {enc : TypeId × Value → H} {w : World} {base : Nat} {held : Bool} {a : Option Addr} {len cap : Nat} {x : DataW H × List MemPlace}
    (h : ∃ fuel, DataW.trod enc Tryz.prog w base (fun _ => true) held fuel 63 (Value.slice a len cap).cells.toList = some x) : Nums w a len := by
  obtain ⟨fuel, hf⟩ := h
  rcases open_ints Tryz.underlying63 Tryz.underlying3 (by kernel_rfl) hf with ⟨hcs, _⟩ | ⟨x, l, c, zs, hcs, _, hl, hm, hz, _, hcell, hwz⟩
  · simp [Value.cells] at hcs
    obtain ⟨rfl, rfl, rfl⟩ := hcs
    exact ⟨Nat.zero_le _, fun h => absurd h (Nat.lt_irrefl _)⟩
  · simp [Value.cells] at hcs
    obtain ⟨rfl, rfl, rfl⟩ := hcs
    have hz' : zs.length = cap := by simpa using hz
    refine ⟨Nat.le_trans hl hm, fun hp => ?_⟩
    obtain ⟨b, off, rfl, hc⟩ := ints_at hcell (by omega)
    exact ⟨b, off, rfl, cell_lt (hc 0 (by omega)), fun i hi => ⟨_, hc i (by omega)⟩⟩
end Go.Proofs.YtemmmdhmkegaaaaGreatDoor

/- A list of lists of bytes that came in. -/
namespace Go.Proofs.YtemmmdhmkegaaaaGreatDoor
open Go.ChangeShapes Go.WideShapes Go.ChangeAt Go.RowKit
set_option linter.unusedVariables false

def IsPieces (w : World) (a : Option Addr) (len : Nat) : Prop :=
  len ≤ maxLen ∧ (0 < len → ∃ b off, a = some ⟨b, off, none⟩ ∧ b < w.heap.size ∧ ∀ i, i < len → ∃ pa pc kp P, w.cell? ⟨b, off + i, none⟩ = some (.slice pa P.length pc) ∧ Src w kp (.slice pa P.length pc) P ∧ (0 < P.length → kp < w.heap.size) ∧ (pa = none → pc = 0))

theorem nums_bytes (zs : List Int) (len : Nat) (hl : len ≤ zs.length) (hw : ∀ n ∈ zs, (Lit.int .u8 n).wf = true) : ∃ P : List UInt8, P.length = len ∧ ∀ (j : Nat) (hj : j < P.length), Value.int .u8 (zs.getD j 0) = bv P[j] := by
  have hbl : ((zs.take len).map fun z => z.toNat.toUInt8).length = len := by rw [List.length_map, List.length_take]; omega
  refine ⟨(zs.take len).map fun z => z.toNat.toUInt8, hbl, fun j hj => ?_⟩
  have hj' : j < len := by rw [hbl] at hj; exact hj
  have hg : zs.getD j 0 = zs[j]'(by omega) := by simp [List.getD, List.getElem?_eq_getElem (show j < zs.length by omega)]
  have hb := bounds_u8 (hw _ (List.getElem_mem (show j < zs.length by omega)))
  rw [hg, List.getElem_map, List.getElem_take]
  unfold bv
  generalize zs[j]'(by omega) = z at hb
  have e : (z.toNat.toUInt8.toNat : Int) = z := by
    have : z.toNat.toUInt8.toNat = z.toNat := by simp; omega
    rw [this]; omega
  rw [e]
theorem open_bytess {H : Type} {enc : TypeId × Value → H} {w : World} {base : Nat} {held : Bool} {a : Option Addr} {len cap : Nat} {x : DataW H × List MemPlace}
    (h : ∃ fuel, DataW.trod enc Tryz.prog w base (fun _ => true) held fuel 68 (Value.slice a len cap).cells.toList = some x) : IsPieces w a len := by
  obtain ⟨fuel, hf⟩ := h
  rcases Go.Deep.open_int_rows Tryz.underlying68 Tryz.underlying31 Tryz.underlying5 (by kernel_rfl) (by kernel_rfl) hf with ⟨hcs, _⟩ | ⟨x, l, c, A, L, C, Z, hcs, _, hl, hm, _, hrow⟩
  · simp [Value.cells] at hcs
    obtain ⟨rfl, rfl, rfl⟩ := hcs
    exact ⟨Nat.zero_le _, fun h => absurd h (Nat.lt_irrefl _)⟩
  · simp [Value.cells] at hcs
    obtain ⟨rfl, rfl, rfl⟩ := hcs
    refine ⟨Nat.le_trans hl hm, fun hp => ?_⟩
    obtain ⟨b, off, spot⟩ := x
    have hspot : spot = none := by simpa [Addr.add] using World.cell?_spot (hrow 0 (by omega)).1
    subst hspot
    refine ⟨b, off, rfl, ?_, fun i hi => ?_⟩
    · have := cell_lt (hrow 0 (by omega)).1
      rwa [addr_add] at this
    · obtain ⟨q1, q2, q3, q4, q5, q6, q7⟩ := hrow i (by omega)
      rw [addr_add] at q1
      obtain ⟨P, hP, hbyte⟩ := nums_bytes (Z i) (L i) (by omega) q5
      rcases Nat.eq_zero_or_pos P.length with hz | hz
      · exact ⟨A i, C i, 0, P, by rw [hP]; exact q1, ⟨A i, C i, rfl, by omega, q3, fun h => by omega⟩, fun h => by omega, q6⟩
      · cases hA : A i with
        | none => have := q6 hA; omega
        | some a' =>
          obtain ⟨r1, r2⟩ := q7 a' hA
          obtain ⟨b', off', spot'⟩ := a'
          have hsp : spot' = none := by simpa [Addr.add] using World.cell?_spot (r2 0 (by omega))
          subst hsp
          refine ⟨some ⟨b', off', none⟩, C i, b', P, by rw [hP, ← hA]; exact q1, ⟨_, _, rfl, by omega, q3, fun _ => ⟨off', rfl, fun j hj => ?_⟩⟩, fun _ => ?_, fun c => by cases c⟩
          · have := r2 j (by omega)
            rw [addr_add, hbyte j hj] at this
            exact this
          · have := cell_lt (r2 0 (by omega))
            rwa [addr_add] at this

end Go.Proofs.YtemmmdhmkegaaaaGreatDoor

/- ConnWrites: two rows beside a connection. -/
namespace Go.Proofs.YtemmmdhmkegaaaaGreatDoor
open Go.RowKit
set_option linter.unusedVariables false

/-- A connection in block b, and two rows of one's own. -/
def WS (w1 : World) (rs : List Nat) (b : Nat) (s : Cs) (vx vy : Value) (X Y : List UInt8) (wr : World) : Prop := ∃ gx gy, Acc wr gx vx X ∧ Acc wr gy vy Y ∧ gx ≠ gy ∧ gx ≠ b ∧ gy ≠ b ∧ w1.heap.size ≤ gx ∧ w1.heap.size ≤ gy ∧
  Cn (fun k => k < w1.heap.size ∨ k = b ∨ k = gx ∨ k = gy) w1 wr w1.heap.size rs [s.li, s.lo] 1048576 b 0 s
section
variable {w1 wr : World} {rs : List Nat} {b : Nat} {s : Cs} {vx vy : Value} {X Y : List UInt8}
theorem WS.bel (h : WS w1 rs b s vx vy X Y wr) : Below w1.heap.size w1 wr := by obtain ⟨_, _, _, _, _, _, _, _, _, c⟩ := h; exact c.bel
theorem WS.swap (h : WS w1 rs b s vx vy X Y wr) : WS w1 rs b s vy vx Y X wr := by
  obtain ⟨gx, gy, h1, h2, h3, h4, h5, h6, h7, c⟩ := h
  exact ⟨gy, gx, h2, h1, h3.symm, h5, h4, h7, h6, c.weak (fun j hj => by rcases hj with k | k | k | k; exact .inl k; exact .inr (.inl k); exact .inr (.inr (.inr k)); exact .inr (.inr (.inl k))) (.inr (.inl rfl))⟩
/-- A call of the connection. -/
theorem WS.call {f : Nat} {args : Array Value} {P : Ending → Prop} {s' : Cs} (h : WS w1 rs b s vx vy X Y wr)
    (H : ∀ F : Nat → Prop, (∀ k, k < w1.heap.size → F k) → Cn F w1 wr w1.heap.size rs [s.li, s.lo] 1048576 b 0 s → Calls Tryz.prog f args wr fun e w' => P e ∧ Aft F F w1 wr w' w1.heap.size rs [s.li, s.lo] 1048576 b 0 s') :
    Calls Tryz.prog f args wr fun e w' => P e ∧ WS w1 rs b s' vx vy X Y w' := by
  obtain ⟨gx, gy, h1, h2, h3, h4, h5, h6, h7, c⟩ := h
  refine (H _ (fun k hk => .inl hk) c).mono ?_
  rintro e w' ⟨p, A⟩
  exact ⟨p, gx, gy, h1.frame (A.2.1 gx (.inr (.inr (.inl rfl))) h4), h2.frame (A.2.1 gy (.inr (.inr (.inr rfl))) h5), h3, h4, h5, h6, h7, A.1⟩
/-- A call that only reads. -/
theorem WS.look {f : Nat} {args : Array Value} {P : Ending → Prop} (h : WS w1 rs b s vx vy X Y wr)
    (H : ∀ F : Nat → Prop, Cn F w1 wr w1.heap.size rs [s.li, s.lo] 1048576 b 0 s → Calls Tryz.prog f args wr fun e w' => P e ∧ Below wr.heap.size wr w') :
    Calls Tryz.prog f args wr fun e w' => P e ∧ WS w1 rs b s vx vy X Y w' := by
  obtain ⟨gx, gy, h1, h2, h3, h4, h5, h6, h7, c⟩ := h
  refine (H _ c).mono ?_
  rintro e w' ⟨p, B⟩
  exact ⟨p, gx, gy, h1.frame (B.block gx h1.lt), h2.frame (B.block gy h2.lt), h3, h4, h5, h6, h7, c.below B⟩
/-- Bytes are appended to the first row. -/
theorem WS.app {k : Nat} {a : Option Addr} {n c : Nat} {Z : List UInt8} (h : WS w1 rs b s vx vy X Y wr) (hs : Src wr k (.slice a n c) Z) (hnil : a = none → c = 0) (hmax : X.length + Z.length ≤ 1000000) :
    ∃ v' w', (Builtin.append_ #[31, 31] 31 #[vx, .slice a n c]).run Tryz.prog wr = .ok v' w' ∧ WS w1 rs b s v' vy (X ++ Z) Y w' := by
  obtain ⟨gx, gy, h1, h2, h3, h4, h5, h6, h7, C⟩ := h
  obtain ⟨v', w', g', r, ha, hg, hk⟩ := acc_append h1 hs hnil (by omega)
  have l2 := h2.lt
  have l3 := C.lt
  have l4 := h1.lt
  refine ⟨v', w', r, g', gy, ha, h2.frame (hk.block gy l2 (fun e => h3 e.symm)), ?_, ?_, h5, ?_, h7, C.step hk (fun j hj => ⟨.inl ⟨by rw [hj]; exact .inr (.inr (.inl rfl)), by rw [hj]; exact h4⟩, by omega⟩) (fun j hj => ?_) (.inr (.inl rfl))⟩
  · rcases hg with e | e <;> omega
  · rcases hg with e | e <;> omega
  · rcases hg with e | e
    · omega
    · have := C.bel.size; omega
  · rcases hj with e | e | e | e
    · exact .inl (.inl e)
    · exact .inl (.inr (.inl e))
    · rcases hg with q | q
      · exact .inl (.inr (.inr (.inl (e.trans q))))
      · exact .inr (by rw [e]; exact q)
    · exact .inl (.inr (.inr (.inr e)))
/-- What is written, by a call. -/
theorem WS.write (h : WS w1 rs b s vx vy X Y wr) (n : Int) :
    Calls Tryz.prog 28 #[.pointer (some ⟨b, 0, none⟩), .int .i64 n] wr fun e w' => ∃ g, e = .returned (.slice (some ⟨g, 0, none⟩) (writeN s n) (writeN s n)) ∧ Src w' g (.slice (some ⟨g, 0, none⟩) (writeN s n) (writeN s n)) (s.lo.take (writeN s n)) ∧ WS w1 rs b (writeS s n) vx vy X Y w' := by
  obtain ⟨gx, gy, h1, h2, h3, h4, h5, h6, h7, C⟩ := h
  have hN := writeN_le s n C.win.1
  have hw := C.win.2
  refine (cowrite_any C n).mono ?_
  rintro e w' ⟨g, rfl, hg, hrow, A⟩
  exact ⟨g, rfl, src_row hrow (by rw [List.length_take]; omega) (by unfold maxLen; omega), gx, gy, h1.frame (A.2.1 gx (.inr (.inr (.inl rfl))) h4), h2.frame (A.2.1 gy (.inr (.inr (.inr rfl))) h5), h3, h4, h5, h6, h7, A.1.weak (fun _ k => .inl k) C.own⟩
/-- What the meter holds. -/
theorem WS.held (h : WS w1 rs b s vx vy X Y wr) : Calls Tryz.prog 38 #[.pointer (some ⟨w1.heap.size, 0, none⟩)] wr fun e w' => e = .returned (.int .i64 ((s.li.length + s.lo.length : Nat) : Int)) ∧ w' = wr := by
  obtain ⟨gx, gy, h1, h2, h3, h4, h5, h6, h7, C⟩ := h
  obtain ⟨p, hm⟩ := C.many
  have k := held_q w1.heap.size 1048576 _ p wr hm.isM
  rw [show ((tot [s.li, s.lo] : Nat) : Int) = ((s.li.length + s.lo.length : Nat) : Int) by rw [tot2]] at k
  exact k
theorem WS.same (h : WS w1 rs b s vx vy X X wr) : Calls Tryz.prog 27 #[vy, vx] wr fun e w' => e = .returned (.bool true) ∧ WS w1 rs b s vx vy X X w' := by
  obtain ⟨gx, gy, h1, h2, h3, h4, h5, h6, h7, C⟩ := h
  refine (sameBytes_eq X gy gx vy vx wr h2.src h1.src).mono ?_
  rintro e w' ⟨p, B⟩
  exact ⟨p, gx, gy, h1.frame (B.block gx h1.lt), h2.frame (B.block gy h2.lt), h3, h4, h5, h6, h7, C.below B⟩
theorem WS.form (h : WS w1 rs b s vx vy X Y wr) : (∃ g c, vx = .slice (some ⟨g, 0, none⟩) X.length c) ∧ ∃ g c, vy = .slice (some ⟨g, 0, none⟩) Y.length c := by
  obtain ⟨gx, gy, h1, h2, _⟩ := h
  obtain ⟨c1, e1⟩ := h1.form
  obtain ⟨c2, e2⟩ := h2.form
  exact ⟨⟨gx, c1, e1⟩, gy, c2, e2⟩
end
theorem WS.new {w1 w : World} {rs : List Nat} {b : Nat} {s : Cs} (C : Cn (fun k => k < w1.heap.size ∨ k = b) w1 w w1.heap.size rs [s.li, s.lo] 1048576 b 0 s) :
    WS w1 rs b s (.slice (some ⟨w.heap.size, 0, none⟩) 0 0) (.slice (some ⟨w.heap.size + 1, 0, none⟩) 0 0) [] [] ((w.alloc (.cells #[] 5)).alloc (.cells #[] 5)) := by
  have e : (w.alloc (.cells #[] 5)).heap.size = w.heap.size + 1 := by simp
  have e2 : ((w.alloc (.cells #[] 5)).alloc (.cells #[] 5)).heap.size = w.heap.size + 2 := by simp
  have h1 := (Acc.empty w).frame (w' := (w.alloc (.cells #[] 5)).alloc (.cells #[] 5)) (((Below.refl _ _).alloc (Nat.le_refl _) _).block w.heap.size (by simp))
  have h2 := Acc.empty (w.alloc (.cells #[] 5))
  rw [e] at h2
  have B : Below w.heap.size w ((w.alloc (.cells #[] 5)).alloc (.cells #[] 5)) := ((Below.refl _ _).alloc (Nat.le_refl _) _).alloc (by rw [e]; omega) _
  have hlt := C.lt
  have hs := C.bel.size
  refine ⟨w.heap.size, w.heap.size + 1, h1, h2, by omega, by omega, by omega, hs, by omega, (C.belowN B).weak (fun j hj => ?_) (.inr (.inl rfl))⟩
  rw [e2]
  rcases hj with k | k | k | k
  · exact .inl (.inl k)
  · exact .inl (.inr k)
  · exact .inr (by omega)
  · exact .inr (by omega)
end Go.Proofs.YtemmmdhmkegaaaaGreatDoor

/- ConnWrites: the walk. -/
namespace Go.Proofs.YtemmmdhmkegaaaaGreatDoor
open Go.RowKit
set_option linter.unusedVariables false

def sx (lo : List UInt8) (win : Int) : Cs := ⟨[], lo, win, false, false, false⟩
theorem sx_say (lo P : List UInt8) (win : Int) (h : lo.length + P.length ≤ 1000000) : sayS (sx lo win) (tot [[], lo]) 1048576 P false = (sx (lo ++ P) win, true) := by
  unfold sayS noteS say2 sx
  rw [tot2]
  simp only [Bool.false_eq_true, if_false, List.length_nil]
  rw [if_pos (by omega)]
theorem sx_note (lo P : List UInt8) (win : Int) (h : lo.length + P.length ≤ 1000000) : noteS (sx lo win) (tot [[], lo]) 1048576 P = (sx (lo ++ P) win, true) := by
  unfold noteS sx
  rw [tot2, if_pos (by simp only [List.length_nil]; omega)]
theorem sx_win (lo : List UInt8) (win d : Int) (h0 : 0 ≤ d) (h1 : d + win ≤ 1073741824) : windowS (sx lo win) d = sx lo (win + d) := by
  unfold windowS sx
  simp only [Cs.mk.injEq, true_and, and_true]
  omega
theorem sx_win2 (lo : List UInt8) (win : Int) (h0 : 0 ≤ win) (h1 : win ≤ 1073741824) : windowS (sx lo win) 1073741824 = sx lo 1073741824 := by
  unfold windowS sx
  simp only [Cs.mk.injEq, true_and, and_true]
  omega
theorem sx_n2 (lo : List UInt8) (h : lo.length ≤ 1000000) : writeN (sx lo 1073741824) 4611686018427387904 = lo.length := by
  unfold writeN wantS sx
  simp only
  omega
theorem sx_nle (lo : List UInt8) (win n : Int) (h : 0 ≤ win) : (writeN (sx lo win) n : Int) ≤ max n 0 ∧ writeN (sx lo win) n ≤ lo.length ∧ (writeN (sx lo win) n : Int) ≤ win := by
  unfold writeN wantS sx
  simp only
  omega
theorem sx_feed (k : Int) : feedS (sx [] k) (tot [[], []]) 1048576 [71, 69, 84] = (⟨[71, 69, 84], [], k, false, false, false⟩, true) := by
  unfold feedS
  rw [if_neg (show ¬ (sx [] k).cl = true by show ¬ false = true; decide), tot2, if_pos (by simp)]
  rfl
theorem sx_note2 (k : Int) : noteS ⟨[71, 69, 84], [], k, false, false, false⟩ (tot [[71, 69, 84], []]) 1048576 [120] = (⟨[71, 69, 84], [120], k, false, false, false⟩, true) := by
  unfold noteS
  rw [tot2, if_pos (by simp)]
  rfl
theorem sx_drop (k : Int) : dropS ⟨[71, 69, 84], [120], k, false, false, false⟩ = ⟨[], [], k, false, false, true⟩ := rfl
theorem sx_feed3 (k : Int) : feedS ⟨[], [], k, false, false, true⟩ (tot [[], []]) 1048576 [109, 111, 114, 101] = (⟨[], [], k, false, false, true⟩, true) := rfl
theorem sx_write (lo : List UInt8) (win n : Int) : writeS (sx lo win) n = sx (lo.drop (writeN (sx lo win) n)) (win - writeN (sx lo win) n) := rfl
theorem cell_keep {w w' : World} {k o : Nat} {v : Value} (h : w.cell? ⟨k, o, none⟩ = some v) (e : w'.heap[k]? = w.heap[k]?) : w'.cell? ⟨k, o, none⟩ = some v := by
  unfold World.cell? at *; rw [e]; exact h
/-- Where a round stands. -/
structure WR (w1 : World) (rs : List Nat) (b i W : Nat) (lo : List UInt8) (win : Int) (vx vy : Value) (X Y : List UInt8) (wr : World) : Prop where
  ws : WS w1 rs b (sx lo win) vx vy X Y wr
  xy : X = Y ++ lo
  win : win = (W : Int) - Y.length
  yw : Y.length ≤ W
  wl : W ≤ 255 * i
  xl : X.length ≤ 1000 * i

set_option maxRecDepth 100000 in
set_option maxHeartbeats 16000000 in
theorem writes18_walk (a0 : Option Addr) (n0 c0 : Nat) (a1 : Option Addr) (n1 c1 : Nat) (a2 : Option Addr) (n2 c2 : Nat) (w : World) (h0 : IsPieces w a0 n0) (h1 : Nums w a1 n1) (h2 : Nums w a2 n2) (hM : MaxL w) :
    Calls Tryz.prog 5 #[.slice a0 n0 c0, .slice a1 n1 c1, .slice a2 n2 c2] w fun e w' => e = .returned (.bool true) ∧ Below w.heap.size w w' := by
  have HA := alive18_any w hM
  have m0 := h0.1
  have m1 := h1.1
  have m2 := h2.1
  unfold maxLen at m0 m1 m2
  by_cases g0 : 40 < n0
  · have g0' : (40 : Int) < n0 := by omega
    clear h0 h1 h2
    go_enter Tryz.func5, Tryz.ntmps5
    go_wp2_with fail
    refine HA.mono ?_
    rintro e w1 ⟨rfl, B1⟩
    go_wp2
    go_ret
    exact ⟨rfl, B1⟩
  have g1 : ¬ (40 : Int) < n0 := by omega
  have HP : Hid (∀ i, i < n0 → ∃ bk off, a0 = some ⟨bk, off, none⟩ ∧ bk < w.heap.size ∧ ∃ pa pc kp P, w.cell? ⟨bk, off + i, none⟩ = some (.slice pa P.length pc) ∧ kp < w.heap.size ∧ Src w kp (.slice pa P.length pc) P ∧ (pa = none → pc = 0)) := fun i hi => by
    obtain ⟨bk, off, e, hb, hc⟩ := h0.2 (by omega)
    obtain ⟨pa, pc, kp, P, q1, q2, q3, q4⟩ := hc i hi
    obtain ⟨kp', l, s⟩ := q2.low q3 hM
    exact ⟨bk, off, e, hb, pa, pc, kp', P, q1, l, s, q4⟩
  have HN1 : Hid (∀ i, i < n1 → ∃ bk off z, a1 = some ⟨bk, off, none⟩ ∧ bk < w.heap.size ∧ w.cell? ⟨bk, off + i, none⟩ = some (.int .i64 z)) := fun i hi => by
    obtain ⟨bk, off, e, hb, hc⟩ := h1.2 (by omega)
    obtain ⟨z, hz⟩ := hc i hi
    exact ⟨bk, off, z, e, hb, hz⟩
  have HN2 : Hid (∀ i, i < n2 → ∃ bk off z, a2 = some ⟨bk, off, none⟩ ∧ bk < w.heap.size ∧ w.cell? ⟨bk, off + i, none⟩ = some (.int .i64 z)) := fun i hi => by
    obtain ⟨bk, off, e, hb, hc⟩ := h2.2 (by omega)
    obtain ⟨z, hz⟩ := hc i hi
    exact ⟨bk, off, z, e, hb, hz⟩
  clear hM h0 h1 h2 g0
  go_enter Tryz.func5, Tryz.ntmps5
  go_wp2_with fail
  refine HA.mono ?_
  rintro e w1 ⟨rfl, B1⟩
  have HB1 : Hid (Below w.heap.size w w1) := B1
  clear HA B1
  go_wp2_with fail
  refine (new_any 1048576 _).mono ?_
  rintro e w2 ⟨rfl, hw2⟩
  have M0 : Many (fun k => k < w1.heap.size) w1 w2 w1.heap.size [] [] 1048576 0 := by rw [hw2]; exact isM_start 1048576 (by decide) (by decide)
  clear hw2
  go_wp2_with fail
  refine (conew_any M0).mono ?_
  rintro e w3 ⟨b, rs, rfl, hb, C0, hrl, B3⟩
  have hb1 : w1.heap.size < b := by have := M0.isM.lt; omega
  have C3 : Cn (fun k => k < w1.heap.size ∨ k = b) w1 w3 w1.heap.size rs [[], []] 1048576 b 0 (sx [] 0) := C0
  have H4 : Hid (WR w1 rs b 0 0 [] 0 (.slice (some ⟨w3.heap.size, 0, none⟩) 0 0) (.slice (some ⟨w3.heap.size + 1, 0, none⟩) 0 0) [] [] ((w3.alloc (.cells #[] 5)).alloc (.cells #[] 5))) := ⟨WS.new C3, rfl, rfl, Nat.le_refl _, Nat.zero_le _, Nat.zero_le _⟩
  clear C0 M0 B3 hb C3
  go_wp2_with fail
  go_loopw [9, 10, 11, 27] (fun v9 v10 v11 vi wr => ∃ (i W xl yl : Nat) (lo : List UInt8) (win : Int) (X Y : List UInt8) (a9 a10 : Option Addr) (c9 c10 : Nat), i ≤ n0 ∧ vi = .int .i64 i ∧ v11 = .int .i64 W ∧ v9 = .slice a9 xl c9 ∧ v10 = .slice a10 yl c10 ∧ Hid (xl = X.length ∧ yl = Y.length ∧ WR w1 rs b i W lo win v9 v10 X Y wr)) (fun _ _ _ vi _ => n0 - (intOf vi).toNat)
  case atStart => exact ⟨0, 0, 0, 0, [], 0, [], [], _, _, _, _, Nat.zero_le _, rfl, rfl, rfl, rfl, rfl, rfl, H4⟩
  case round =>
    obtain ⟨i, W, xl, yl, lo, win, X, Y, a9, a10, c9, c10, hi, rfl, rfl, rfl, rfl, HR⟩ := hrel
    clear H4
    by_cases hin : i < n0
    · have k1 : (i : Int) < n0 := by omega
      obtain ⟨bk, off, rfl, hbk, pa, pc, kp, P, hcell, hkp, hsrc, hnil⟩ := HP.out i hin
      have hB := HB1.out.trans (HR.out.2.2.ws.bel.mono HB1.out.size)
      have hcell := cell_keep hcell (hB.block bk hbk)
      clear hB
      obtain ⟨pl, hpl⟩ : ∃ pl, pl = P.length := ⟨_, rfl⟩
      rw [← hpl] at hcell hsrc
      have HPL : Hid (pl = P.length) := hpl
      clear hpl
      by_cases hp : 1000 < pl
      · have hp' : (1000 : Int) < pl := by omega
        have HE : Hid (Below w.heap.size w wr) := HB1.out.trans (HR.out.2.2.ws.bel.mono HB1.out.size)
        clear HR HP HN1 HN2 hsrc hp
        go_wp2
        go_ret
        exact ⟨rfl, HE.out⟩
      have hp' : ¬ (1000 : Int) < pl := by omega
      obtain ⟨par, hpar, hbp0⟩ := and_mask i 1 (by decide)
      have hbp : bits .and .i64 (i : Int) 1 = (par : Int) := hbp0
      have hkw : kp < w1.heap.size := Nat.lt_of_lt_of_le hkp HB1.out.size
      have HSR : Hid (∀ V, Below w1.heap.size w1 V → Src V kp (.slice pa pl pc) P) := fun V hV => (hsrc.below hkp HB1.out).below hkw hV
      clear hbp0 hsrc hkp
      have HLEN : Hid (lo.length ≤ 40000 ∧ P.length ≤ 1000 ∧ X.length ≤ 40000 ∧ i < 40) := by
        have q1 := HR.out.2.2.xy
        have q2 := HR.out.2.2.xl
        have q3 : X.length = Y.length + lo.length := by rw [q1, List.length_append]
        have q4 := HPL.out
        exact ⟨by omega, by omega, by omega, by omega⟩
      have hpar2 : par = 0 ∨ par = 1 := by omega
      by_cases hn1 : i < n1
      · have k2 : (i : Int) < n1 := by omega
        by_cases hn2 : i < n2
        · have k3 : (i : Int) < n2 := by omega
          rcases hpar2 with rfl | rfl
          · have hbq : bits .and .i64 (i : Int) 1 = 0 := hbp
            clear hbp

            obtain ⟨bk1, off1, z1, rfl, hbk1, hz1⟩ := HN1.out i hn1
            obtain ⟨d, hd, hbd0⟩ := and_mask z1 255 (by decide)
            have hbd : bits .and .i64 z1 255 = (d : Int) := hbd0
            clear hbd0

            obtain ⟨bk2, off2, z2, rfl, hbk2, hz2⟩ := HN2.out i hn2
            obtain ⟨mx, hmx⟩ : ∃ mx, max z2 0 = mx := ⟨_, rfl⟩
            have X0 := cmax_run z2 0 mx hmx
            have HMX : Hid (max z2 0 = mx) := hmx
            clear hmx

            have H5 := WS.call (f := 21) (args := #[.pointer (some ⟨b, 0, none⟩), .slice pa pl pc, .bool false]) (P := fun e => e = .returned (.bool true)) (s' := sx (lo ++ P) win) HR.out.2.2.ws (fun F hF C => by
              have k := cosay_any C kp P _ false (HSR.out _ C.bel) (hF kp hkw) (by omega)
              have e : sayS (sx lo win) (tot [(sx lo win).li, (sx lo win).lo]) 1048576 P false = (sx (lo ++ P) win, true) := sx_say lo P win (by have := HLEN.out; omega)
              rw [e] at k
              exact k)
            go_wp2_with fail
            refine H5.mono ?_
            rintro e w5 ⟨rfl, W5⟩
            clear H5 hcell
            obtain ⟨v6, w6, r6, W6⟩ := W5.app (HSR.out w5 W5.bel) hnil (by have := HLEN.out; omega)
            obtain ⟨⟨g6, c6, e6⟩, -⟩ := W6.form
            rw [List.length_append] at e6
            subst e6
            obtain ⟨x6, hx6⟩ : ∃ x6, x6 = X.length + P.length := ⟨_, rfl⟩
            rw [← hx6] at W6 r6
            have HX6 : Hid (x6 = X.length + P.length) := hx6
            have R6 : Hid _ := r6
            clear hx6 r6 W5
            have hz1_6 := cell_keep hz1 ((HB1.out.trans (W6.bel.mono HB1.out.size)).block bk1 hbk1)
            go_wp2_with (at_builtin; refine wpList_append_run2 rfl _ _ 31 31 rfl _ _ _ w6 rfl rfl R6.out ?_)
            clear R6

            have H7 := WS.call (f := 25) (args := #[.pointer (some ⟨b, 0, none⟩), .int .i64 d]) (P := fun e => e = .returned (.tuple #[])) (s' := sx (lo ++ P) (win + d)) W6 (fun F hF C => by
              have k := cowindow_any C d
              have e : windowS (sx (lo ++ P) win) d = sx (lo ++ P) (win + d) := sx_win _ _ _ (by omega) (by have := HR.out.2.2.win; have := HR.out.2.2.wl; omega)
              rw [e] at k
              exact k)
            refine H7.mono ?_
            rintro e w7 ⟨rfl, W7⟩
            have hz1_7 := cell_keep hz1 ((HB1.out.trans (W7.bel.mono HB1.out.size)).block bk1 hbk1)
            have hz2_7 := cell_keep hz2 ((HB1.out.trans (W7.bel.mono HB1.out.size)).block bk2 hbk2)
            have hWd : (W : Int) + d ≤ 1000000 := by have := HR.out.2.2.wl; omega
            clear H7 W6 hz1_6
            go_wp2_with fail

            have hwi0 : 0 ≤ (win + d) := by have := HR.out.2.2.win; have := HR.out.2.2.yw; omega
            have H8 := W7.write z2
            rw [sx_write] at H8
            obtain ⟨hN1, hN2, hN3⟩ := sx_nle (lo ++ P) (win + d) z2 hwi0
            generalize writeN (sx (lo ++ P) (win + d)) z2 = nn at *
            refine H8.mono ?_
            rintro e w8 ⟨g8, rfl, S8, W8⟩
            have hz2_8 := cell_keep hz2 ((HB1.out.trans (W8.bel.mono HB1.out.size)).block bk2 hbk2)
            have hNM : ¬ mx < (nn : Int) := by have := HMX.out; omega
            have hyl : Y.length = yl := HR.out.2.1.symm
            have hml : Y.length + ((sx (lo ++ P) (win + d)).lo.take nn).length ≤ 1000000 := by
              have q1 := HR.out.2.2.xy
              have q2 : ((sx (lo ++ P) (win + d)).lo.take nn).length ≤ (lo ++ P).length := List.length_take_le' _ _
              have q3 : X.length = Y.length + lo.length := by rw [q1, List.length_append]
              rw [List.length_append] at q2
              have := HLEN.out
              omega
            obtain ⟨v9, w9, r9, W9⟩ := W8.swap.app S8 (fun h => by cases h) hml
            have W9 := W9.swap
            obtain ⟨-, g9, c9', e9⟩ := W9.form
            rw [List.length_append, List.length_take, show (sx (lo ++ P) (win + d)).lo = lo ++ P from rfl, Nat.min_eq_left hN2, hyl] at e9
            subst e9
            have R9 : Hid _ := r9
            have k6 : ¬ ((W : Int) + d) < (yl : Int) + nn := by have := HR.out.2.2.win; omega
            obtain ⟨y9, hy9⟩ : ∃ y9, y9 = yl + nn := ⟨_, rfl⟩
            rw [← hy9] at W9 R9
            have k6 : ¬ ((W : Int) + d) < y9 := by omega
            have HY9 : Hid (y9 = yl + nn ∧ (y9 : Int) ≤ (W : Int) + d) := ⟨hy9, by omega⟩
            clear r9 W8 W7 H8 hyl hy9 hz2_7
            go_wp2_with (at_builtin; refine wpList_append_run2 rfl _ _ 31 31 rfl _ _ _ w9 rfl rfl R9.out ?_)
            clear R9

            have HZ : Hid (x6 = (X ++ P).length ∧ y9 = (Y ++ (lo ++ P).take nn).length ∧ WR w1 rs b (i + 1) (W + d) ((lo ++ P).drop nn) ((win + d) - nn) (.slice (some ⟨g6, 0, none⟩) x6 c6) (.slice (some ⟨g9, 0, none⟩) y9 c9') (X ++ P) (Y ++ (lo ++ P).take nn) w9) := by
              have q1 := HR.out.2.2.xy
              have q2 := HR.out.2.2.win
              have q3 := HR.out.2.2.yw
              have q4 := HR.out.2.2.wl
              have q5 := HR.out.2.2.xl
              have q6 := HR.out.2.1
              have q7 := HLEN.out
              refine ⟨by rw [HX6.out, List.length_append], ?_, W9, ?_, ?_, ?_, by omega, by rw [List.length_append]; omega⟩
              · rw [List.length_append, List.length_take, Nat.min_eq_left hN2, HY9.out.1, q6]
              · rw [q1, List.append_assoc, List.append_assoc, List.take_append_drop]
              · rw [List.length_append, List.length_take, Nat.min_eq_left hN2]; omega
              · rw [List.length_append, List.length_take, Nat.min_eq_left hN2]; have := HY9.out; omega
            have hzl := HZ.out.2.2.xy
            have hzl2 : (X ++ P).length = (Y ++ (lo ++ P).take nn).length + ((lo ++ P).drop nn).length := by rw [hzl, List.length_append]
            have H10 := HZ.out.2.2.ws.held
            have e10 : (((sx ((lo ++ P).drop nn) ((win + d) - nn)).li.length + (sx ((lo ++ P).drop nn) ((win + d) - nn)).lo.length : Nat) : Int) = (x6 : Int) - y9 := by
              show (((0 + ((lo ++ P).drop nn).length : Nat)) : Int) = _
              have q1 := HZ.out.1
              have q2 := HZ.out.2.1
              omega
            rw [e10] at H10
            obtain ⟨mi, hmi⟩ : ∃ mi, min (x6 : Int) ((W : Int) + d) = mi := ⟨_, rfl⟩
            have X1 := cmin_run x6 ((W : Int) + d) mi hmi
            have e11 : wantS (sx ((lo ++ P).drop nn) ((win + d) - nn)) = mi - y9 := by
              have q1 := HZ.out.1
              have q2 := HZ.out.2.1
              have q3 := HZ.out.2.2.win
              show min ((((lo ++ P).drop nn).length : Nat) : Int) ((win + d) - nn) = _
              omega
            have h11 := HZ.out.2.2.yw
            have hmi2 : 0 ≤ mi ∧ mi ≤ 100000000 := by have := HZ.out.2.2.xl; have := HZ.out.1; have := HZ.out.2.2.wl; omega
            have hx6b : (x6 : Int) ≤ 1000000 := by have := HZ.out.2.2.xl; have := HZ.out.1; omega
            have hylb : (y9 : Int) ≤ x6 := by have := HZ.out.1; have := HZ.out.2.1; omega
            clear hzl hzl2 e10 hmi h11
            refine H10.mono ?_
            rintro e w' ⟨rfl, hw⟩
            rw [hw]
            clear hw H10
            have H12 := WS.look (f := 31) (args := #[.pointer (some ⟨b, 0, none⟩)]) (P := fun e => e = .returned (.int .i64 (mi - y9))) HZ.out.2.2.ws (fun F C => by
              have k := cowant_any C
              rw [e11] at k
              exact k)
            clear e11
            go_wp2_with fail
            refine H12.mono ?_
            rintro e w12 ⟨rfl, W12⟩
            have HF := hidC (show x6 = (X ++ P).length ∧ y9 = (Y ++ (lo ++ P).take nn).length ∧ WR w1 rs b (i + 1) (W + d) ((lo ++ P).drop nn) ((win + d) - nn) (.slice (some ⟨g6, 0, none⟩) x6 c6) (.slice (some ⟨g9, 0, none⟩) y9 c9') (X ++ P) (Y ++ (lo ++ P).take nn) w12 from ⟨HZ.out.1, HZ.out.2.1, W12, HZ.out.2.2.xy, HZ.out.2.2.win, HZ.out.2.2.yw, HZ.out.2.2.wl, HZ.out.2.2.xl⟩)
            clear H12 W12 HZ
            go_wp2
            go_roundw
            case rel => exact ⟨i + 1, W + d, x6, y9, _, _, _, _, _, _, _, _, by omega, by go_num, by go_num, rfl, rfl, HF⟩
            case measure => simp [intOf]; omega
          · have hbq : bits .and .i64 (i : Int) 1 = 1 := hbp
            clear hbp

            obtain ⟨bk1, off1, z1, rfl, hbk1, hz1⟩ := HN1.out i hn1
            obtain ⟨d, hd, hbd0⟩ := and_mask z1 255 (by decide)
            have hbd : bits .and .i64 z1 255 = (d : Int) := hbd0
            clear hbd0

            obtain ⟨bk2, off2, z2, rfl, hbk2, hz2⟩ := HN2.out i hn2
            obtain ⟨mx, hmx⟩ : ∃ mx, max z2 0 = mx := ⟨_, rfl⟩
            have X0 := cmax_run z2 0 mx hmx
            have HMX : Hid (max z2 0 = mx) := hmx
            clear hmx

            have H5 := WS.call (f := 23) (args := #[.pointer (some ⟨b, 0, none⟩), .slice pa pl pc]) (P := fun e => e = .returned (.bool true)) (s' := sx (lo ++ P) win) HR.out.2.2.ws (fun F hF C => by
              have k := conote_any C kp P _ (HSR.out _ C.bel) (hF kp hkw)
              have e : noteS (sx lo win) (tot [(sx lo win).li, (sx lo win).lo]) 1048576 P = (sx (lo ++ P) win, true) := sx_note lo P win (by have := HLEN.out; omega)
              rw [e] at k
              exact k)
            go_wp2_with fail
            refine H5.mono ?_
            rintro e w5 ⟨rfl, W5⟩
            clear H5 hcell
            obtain ⟨v6, w6, r6, W6⟩ := W5.app (HSR.out w5 W5.bel) hnil (by have := HLEN.out; omega)
            obtain ⟨⟨g6, c6, e6⟩, -⟩ := W6.form
            rw [List.length_append] at e6
            subst e6
            obtain ⟨x6, hx6⟩ : ∃ x6, x6 = X.length + P.length := ⟨_, rfl⟩
            rw [← hx6] at W6 r6
            have HX6 : Hid (x6 = X.length + P.length) := hx6
            have R6 : Hid _ := r6
            clear hx6 r6 W5
            have hz1_6 := cell_keep hz1 ((HB1.out.trans (W6.bel.mono HB1.out.size)).block bk1 hbk1)
            go_wp2_with (at_builtin; refine wpList_append_run2 rfl _ _ 31 31 rfl _ _ _ w6 rfl rfl R6.out ?_)
            clear R6

            have H7 := WS.call (f := 25) (args := #[.pointer (some ⟨b, 0, none⟩), .int .i64 d]) (P := fun e => e = .returned (.tuple #[])) (s' := sx (lo ++ P) (win + d)) W6 (fun F hF C => by
              have k := cowindow_any C d
              have e : windowS (sx (lo ++ P) win) d = sx (lo ++ P) (win + d) := sx_win _ _ _ (by omega) (by have := HR.out.2.2.win; have := HR.out.2.2.wl; omega)
              rw [e] at k
              exact k)
            refine H7.mono ?_
            rintro e w7 ⟨rfl, W7⟩
            have hz1_7 := cell_keep hz1 ((HB1.out.trans (W7.bel.mono HB1.out.size)).block bk1 hbk1)
            have hz2_7 := cell_keep hz2 ((HB1.out.trans (W7.bel.mono HB1.out.size)).block bk2 hbk2)
            have hWd : (W : Int) + d ≤ 1000000 := by have := HR.out.2.2.wl; omega
            clear H7 W6 hz1_6
            go_wp2_with fail

            have hwi0 : 0 ≤ (win + d) := by have := HR.out.2.2.win; have := HR.out.2.2.yw; omega
            have H8 := W7.write z2
            rw [sx_write] at H8
            obtain ⟨hN1, hN2, hN3⟩ := sx_nle (lo ++ P) (win + d) z2 hwi0
            generalize writeN (sx (lo ++ P) (win + d)) z2 = nn at *
            refine H8.mono ?_
            rintro e w8 ⟨g8, rfl, S8, W8⟩
            have hz2_8 := cell_keep hz2 ((HB1.out.trans (W8.bel.mono HB1.out.size)).block bk2 hbk2)
            have hNM : ¬ mx < (nn : Int) := by have := HMX.out; omega
            have hyl : Y.length = yl := HR.out.2.1.symm
            have hml : Y.length + ((sx (lo ++ P) (win + d)).lo.take nn).length ≤ 1000000 := by
              have q1 := HR.out.2.2.xy
              have q2 : ((sx (lo ++ P) (win + d)).lo.take nn).length ≤ (lo ++ P).length := List.length_take_le' _ _
              have q3 : X.length = Y.length + lo.length := by rw [q1, List.length_append]
              rw [List.length_append] at q2
              have := HLEN.out
              omega
            obtain ⟨v9, w9, r9, W9⟩ := W8.swap.app S8 (fun h => by cases h) hml
            have W9 := W9.swap
            obtain ⟨-, g9, c9', e9⟩ := W9.form
            rw [List.length_append, List.length_take, show (sx (lo ++ P) (win + d)).lo = lo ++ P from rfl, Nat.min_eq_left hN2, hyl] at e9
            subst e9
            have R9 : Hid _ := r9
            have k6 : ¬ ((W : Int) + d) < (yl : Int) + nn := by have := HR.out.2.2.win; omega
            obtain ⟨y9, hy9⟩ : ∃ y9, y9 = yl + nn := ⟨_, rfl⟩
            rw [← hy9] at W9 R9
            have k6 : ¬ ((W : Int) + d) < y9 := by omega
            have HY9 : Hid (y9 = yl + nn ∧ (y9 : Int) ≤ (W : Int) + d) := ⟨hy9, by omega⟩
            clear r9 W8 W7 H8 hyl hy9 hz2_7
            go_wp2_with (at_builtin; refine wpList_append_run2 rfl _ _ 31 31 rfl _ _ _ w9 rfl rfl R9.out ?_)
            clear R9

            have HZ : Hid (x6 = (X ++ P).length ∧ y9 = (Y ++ (lo ++ P).take nn).length ∧ WR w1 rs b (i + 1) (W + d) ((lo ++ P).drop nn) ((win + d) - nn) (.slice (some ⟨g6, 0, none⟩) x6 c6) (.slice (some ⟨g9, 0, none⟩) y9 c9') (X ++ P) (Y ++ (lo ++ P).take nn) w9) := by
              have q1 := HR.out.2.2.xy
              have q2 := HR.out.2.2.win
              have q3 := HR.out.2.2.yw
              have q4 := HR.out.2.2.wl
              have q5 := HR.out.2.2.xl
              have q6 := HR.out.2.1
              have q7 := HLEN.out
              refine ⟨by rw [HX6.out, List.length_append], ?_, W9, ?_, ?_, ?_, by omega, by rw [List.length_append]; omega⟩
              · rw [List.length_append, List.length_take, Nat.min_eq_left hN2, HY9.out.1, q6]
              · rw [q1, List.append_assoc, List.append_assoc, List.take_append_drop]
              · rw [List.length_append, List.length_take, Nat.min_eq_left hN2]; omega
              · rw [List.length_append, List.length_take, Nat.min_eq_left hN2]; have := HY9.out; omega
            have hzl := HZ.out.2.2.xy
            have hzl2 : (X ++ P).length = (Y ++ (lo ++ P).take nn).length + ((lo ++ P).drop nn).length := by rw [hzl, List.length_append]
            have H10 := HZ.out.2.2.ws.held
            have e10 : (((sx ((lo ++ P).drop nn) ((win + d) - nn)).li.length + (sx ((lo ++ P).drop nn) ((win + d) - nn)).lo.length : Nat) : Int) = (x6 : Int) - y9 := by
              show (((0 + ((lo ++ P).drop nn).length : Nat)) : Int) = _
              have q1 := HZ.out.1
              have q2 := HZ.out.2.1
              omega
            rw [e10] at H10
            obtain ⟨mi, hmi⟩ : ∃ mi, min (x6 : Int) ((W : Int) + d) = mi := ⟨_, rfl⟩
            have X1 := cmin_run x6 ((W : Int) + d) mi hmi
            have e11 : wantS (sx ((lo ++ P).drop nn) ((win + d) - nn)) = mi - y9 := by
              have q1 := HZ.out.1
              have q2 := HZ.out.2.1
              have q3 := HZ.out.2.2.win
              show min ((((lo ++ P).drop nn).length : Nat) : Int) ((win + d) - nn) = _
              omega
            have h11 := HZ.out.2.2.yw
            have hmi2 : 0 ≤ mi ∧ mi ≤ 100000000 := by have := HZ.out.2.2.xl; have := HZ.out.1; have := HZ.out.2.2.wl; omega
            have hx6b : (x6 : Int) ≤ 1000000 := by have := HZ.out.2.2.xl; have := HZ.out.1; omega
            have hylb : (y9 : Int) ≤ x6 := by have := HZ.out.1; have := HZ.out.2.1; omega
            clear hzl hzl2 e10 hmi h11
            refine H10.mono ?_
            rintro e w' ⟨rfl, hw⟩
            rw [hw]
            clear hw H10
            have H12 := WS.look (f := 31) (args := #[.pointer (some ⟨b, 0, none⟩)]) (P := fun e => e = .returned (.int .i64 (mi - y9))) HZ.out.2.2.ws (fun F C => by
              have k := cowant_any C
              rw [e11] at k
              exact k)
            clear e11
            go_wp2_with fail
            refine H12.mono ?_
            rintro e w12 ⟨rfl, W12⟩
            have HF := hidC (show x6 = (X ++ P).length ∧ y9 = (Y ++ (lo ++ P).take nn).length ∧ WR w1 rs b (i + 1) (W + d) ((lo ++ P).drop nn) ((win + d) - nn) (.slice (some ⟨g6, 0, none⟩) x6 c6) (.slice (some ⟨g9, 0, none⟩) y9 c9') (X ++ P) (Y ++ (lo ++ P).take nn) w12 from ⟨HZ.out.1, HZ.out.2.1, W12, HZ.out.2.2.xy, HZ.out.2.2.win, HZ.out.2.2.yw, HZ.out.2.2.wl, HZ.out.2.2.xl⟩)
            clear H12 W12 HZ
            go_wp2
            go_roundw
            case rel => exact ⟨i + 1, W + d, x6, y9, _, _, _, _, _, _, _, _, by omega, by go_num, by go_num, rfl, rfl, HF⟩
            case measure => simp [intOf]; omega
        · have k3 : ¬ (i : Int) < n2 := by omega
          rcases hpar2 with rfl | rfl
          · have hbq : bits .and .i64 (i : Int) 1 = 0 := hbp
            clear hbp

            obtain ⟨bk1, off1, z1, rfl, hbk1, hz1⟩ := HN1.out i hn1
            obtain ⟨d, hd, hbd0⟩ := and_mask z1 255 (by decide)
            have hbd : bits .and .i64 z1 255 = (d : Int) := hbd0
            clear hbd0

            have H5 := WS.call (f := 21) (args := #[.pointer (some ⟨b, 0, none⟩), .slice pa pl pc, .bool false]) (P := fun e => e = .returned (.bool true)) (s' := sx (lo ++ P) win) HR.out.2.2.ws (fun F hF C => by
              have k := cosay_any C kp P _ false (HSR.out _ C.bel) (hF kp hkw) (by omega)
              have e : sayS (sx lo win) (tot [(sx lo win).li, (sx lo win).lo]) 1048576 P false = (sx (lo ++ P) win, true) := sx_say lo P win (by have := HLEN.out; omega)
              rw [e] at k
              exact k)
            go_wp2_with fail
            refine H5.mono ?_
            rintro e w5 ⟨rfl, W5⟩
            clear H5 hcell
            obtain ⟨v6, w6, r6, W6⟩ := W5.app (HSR.out w5 W5.bel) hnil (by have := HLEN.out; omega)
            obtain ⟨⟨g6, c6, e6⟩, -⟩ := W6.form
            rw [List.length_append] at e6
            subst e6
            obtain ⟨x6, hx6⟩ : ∃ x6, x6 = X.length + P.length := ⟨_, rfl⟩
            rw [← hx6] at W6 r6
            have HX6 : Hid (x6 = X.length + P.length) := hx6
            have R6 : Hid _ := r6
            clear hx6 r6 W5
            have hz1_6 := cell_keep hz1 ((HB1.out.trans (W6.bel.mono HB1.out.size)).block bk1 hbk1)
            go_wp2_with (at_builtin; refine wpList_append_run2 rfl _ _ 31 31 rfl _ _ _ w6 rfl rfl R6.out ?_)
            clear R6

            have H7 := WS.call (f := 25) (args := #[.pointer (some ⟨b, 0, none⟩), .int .i64 d]) (P := fun e => e = .returned (.tuple #[])) (s' := sx (lo ++ P) (win + d)) W6 (fun F hF C => by
              have k := cowindow_any C d
              have e : windowS (sx (lo ++ P) win) d = sx (lo ++ P) (win + d) := sx_win _ _ _ (by omega) (by have := HR.out.2.2.win; have := HR.out.2.2.wl; omega)
              rw [e] at k
              exact k)
            refine H7.mono ?_
            rintro e w7 ⟨rfl, W7⟩
            have hz1_7 := cell_keep hz1 ((HB1.out.trans (W7.bel.mono HB1.out.size)).block bk1 hbk1)
            have k6 : ¬ ((W : Int) + d) < yl := by have := HR.out.2.1; have := HR.out.2.2.yw; omega
            have hWd : (W : Int) + d ≤ 1000000 := by have := HR.out.2.2.wl; omega
            clear H7 W6 hz1_6
            go_wp2_with fail

            have HZ : Hid (x6 = (X ++ P).length ∧ yl = Y.length ∧ WR w1 rs b (i + 1) (W + d) (lo ++ P) (win + d) (.slice (some ⟨g6, 0, none⟩) x6 c6) (.slice a10 yl c10) (X ++ P) Y w7) := by
              have q1 := HR.out.2.2.xy
              have q2 := HR.out.2.2.win
              have q3 := HR.out.2.2.yw
              have q4 := HR.out.2.2.wl
              have q5 := HR.out.2.2.xl
              have q6 := HR.out.2.1
              have q7 := HLEN.out
              refine ⟨by rw [HX6.out, List.length_append], ?_, W7, ?_, ?_, ?_, by omega, by rw [List.length_append]; omega⟩
              · exact q6
              · rw [q1, List.append_assoc]
              · omega
              · omega
            have hzl := HZ.out.2.2.xy
            have hzl2 : (X ++ P).length = Y.length + (lo ++ P).length := by rw [hzl, List.length_append]
            have H10 := HZ.out.2.2.ws.held
            have e10 : (((sx (lo ++ P) (win + d)).li.length + (sx (lo ++ P) (win + d)).lo.length : Nat) : Int) = (x6 : Int) - yl := by
              show (((0 + (lo ++ P).length : Nat)) : Int) = _
              have q1 := HZ.out.1
              have q2 := HZ.out.2.1
              omega
            rw [e10] at H10
            obtain ⟨mi, hmi⟩ : ∃ mi, min (x6 : Int) ((W : Int) + d) = mi := ⟨_, rfl⟩
            have X1 := cmin_run x6 ((W : Int) + d) mi hmi
            have e11 : wantS (sx (lo ++ P) (win + d)) = mi - yl := by
              have q1 := HZ.out.1
              have q2 := HZ.out.2.1
              have q3 := HZ.out.2.2.win
              show min (((lo ++ P).length : Nat) : Int) (win + d) = _
              omega
            have h11 := HZ.out.2.2.yw
            have hmi2 : 0 ≤ mi ∧ mi ≤ 100000000 := by have := HZ.out.2.2.xl; have := HZ.out.1; have := HZ.out.2.2.wl; omega
            have hx6b : (x6 : Int) ≤ 1000000 := by have := HZ.out.2.2.xl; have := HZ.out.1; omega
            have hylb : (yl : Int) ≤ x6 := by have := HZ.out.1; have := HZ.out.2.1; omega
            clear hzl hzl2 e10 hmi h11
            refine H10.mono ?_
            rintro e w' ⟨rfl, hw⟩
            rw [hw]
            clear hw H10
            have H12 := WS.look (f := 31) (args := #[.pointer (some ⟨b, 0, none⟩)]) (P := fun e => e = .returned (.int .i64 (mi - yl))) HZ.out.2.2.ws (fun F C => by
              have k := cowant_any C
              rw [e11] at k
              exact k)
            clear e11
            go_wp2_with fail
            refine H12.mono ?_
            rintro e w12 ⟨rfl, W12⟩
            have HF := hidC (show x6 = (X ++ P).length ∧ yl = Y.length ∧ WR w1 rs b (i + 1) (W + d) (lo ++ P) (win + d) (.slice (some ⟨g6, 0, none⟩) x6 c6) (.slice a10 yl c10) (X ++ P) Y w12 from ⟨HZ.out.1, HZ.out.2.1, W12, HZ.out.2.2.xy, HZ.out.2.2.win, HZ.out.2.2.yw, HZ.out.2.2.wl, HZ.out.2.2.xl⟩)
            clear H12 W12 HZ
            go_wp2
            go_roundw
            case rel => exact ⟨i + 1, W + d, x6, yl, _, _, _, _, _, _, _, _, by omega, by go_num, by go_num, rfl, rfl, HF⟩
            case measure => simp [intOf]; omega
          · have hbq : bits .and .i64 (i : Int) 1 = 1 := hbp
            clear hbp

            obtain ⟨bk1, off1, z1, rfl, hbk1, hz1⟩ := HN1.out i hn1
            obtain ⟨d, hd, hbd0⟩ := and_mask z1 255 (by decide)
            have hbd : bits .and .i64 z1 255 = (d : Int) := hbd0
            clear hbd0

            have H5 := WS.call (f := 23) (args := #[.pointer (some ⟨b, 0, none⟩), .slice pa pl pc]) (P := fun e => e = .returned (.bool true)) (s' := sx (lo ++ P) win) HR.out.2.2.ws (fun F hF C => by
              have k := conote_any C kp P _ (HSR.out _ C.bel) (hF kp hkw)
              have e : noteS (sx lo win) (tot [(sx lo win).li, (sx lo win).lo]) 1048576 P = (sx (lo ++ P) win, true) := sx_note lo P win (by have := HLEN.out; omega)
              rw [e] at k
              exact k)
            go_wp2_with fail
            refine H5.mono ?_
            rintro e w5 ⟨rfl, W5⟩
            clear H5 hcell
            obtain ⟨v6, w6, r6, W6⟩ := W5.app (HSR.out w5 W5.bel) hnil (by have := HLEN.out; omega)
            obtain ⟨⟨g6, c6, e6⟩, -⟩ := W6.form
            rw [List.length_append] at e6
            subst e6
            obtain ⟨x6, hx6⟩ : ∃ x6, x6 = X.length + P.length := ⟨_, rfl⟩
            rw [← hx6] at W6 r6
            have HX6 : Hid (x6 = X.length + P.length) := hx6
            have R6 : Hid _ := r6
            clear hx6 r6 W5
            have hz1_6 := cell_keep hz1 ((HB1.out.trans (W6.bel.mono HB1.out.size)).block bk1 hbk1)
            go_wp2_with (at_builtin; refine wpList_append_run2 rfl _ _ 31 31 rfl _ _ _ w6 rfl rfl R6.out ?_)
            clear R6

            have H7 := WS.call (f := 25) (args := #[.pointer (some ⟨b, 0, none⟩), .int .i64 d]) (P := fun e => e = .returned (.tuple #[])) (s' := sx (lo ++ P) (win + d)) W6 (fun F hF C => by
              have k := cowindow_any C d
              have e : windowS (sx (lo ++ P) win) d = sx (lo ++ P) (win + d) := sx_win _ _ _ (by omega) (by have := HR.out.2.2.win; have := HR.out.2.2.wl; omega)
              rw [e] at k
              exact k)
            refine H7.mono ?_
            rintro e w7 ⟨rfl, W7⟩
            have hz1_7 := cell_keep hz1 ((HB1.out.trans (W7.bel.mono HB1.out.size)).block bk1 hbk1)
            have k6 : ¬ ((W : Int) + d) < yl := by have := HR.out.2.1; have := HR.out.2.2.yw; omega
            have hWd : (W : Int) + d ≤ 1000000 := by have := HR.out.2.2.wl; omega
            clear H7 W6 hz1_6
            go_wp2_with fail

            have HZ : Hid (x6 = (X ++ P).length ∧ yl = Y.length ∧ WR w1 rs b (i + 1) (W + d) (lo ++ P) (win + d) (.slice (some ⟨g6, 0, none⟩) x6 c6) (.slice a10 yl c10) (X ++ P) Y w7) := by
              have q1 := HR.out.2.2.xy
              have q2 := HR.out.2.2.win
              have q3 := HR.out.2.2.yw
              have q4 := HR.out.2.2.wl
              have q5 := HR.out.2.2.xl
              have q6 := HR.out.2.1
              have q7 := HLEN.out
              refine ⟨by rw [HX6.out, List.length_append], ?_, W7, ?_, ?_, ?_, by omega, by rw [List.length_append]; omega⟩
              · exact q6
              · rw [q1, List.append_assoc]
              · omega
              · omega
            have hzl := HZ.out.2.2.xy
            have hzl2 : (X ++ P).length = Y.length + (lo ++ P).length := by rw [hzl, List.length_append]
            have H10 := HZ.out.2.2.ws.held
            have e10 : (((sx (lo ++ P) (win + d)).li.length + (sx (lo ++ P) (win + d)).lo.length : Nat) : Int) = (x6 : Int) - yl := by
              show (((0 + (lo ++ P).length : Nat)) : Int) = _
              have q1 := HZ.out.1
              have q2 := HZ.out.2.1
              omega
            rw [e10] at H10
            obtain ⟨mi, hmi⟩ : ∃ mi, min (x6 : Int) ((W : Int) + d) = mi := ⟨_, rfl⟩
            have X1 := cmin_run x6 ((W : Int) + d) mi hmi
            have e11 : wantS (sx (lo ++ P) (win + d)) = mi - yl := by
              have q1 := HZ.out.1
              have q2 := HZ.out.2.1
              have q3 := HZ.out.2.2.win
              show min (((lo ++ P).length : Nat) : Int) (win + d) = _
              omega
            have h11 := HZ.out.2.2.yw
            have hmi2 : 0 ≤ mi ∧ mi ≤ 100000000 := by have := HZ.out.2.2.xl; have := HZ.out.1; have := HZ.out.2.2.wl; omega
            have hx6b : (x6 : Int) ≤ 1000000 := by have := HZ.out.2.2.xl; have := HZ.out.1; omega
            have hylb : (yl : Int) ≤ x6 := by have := HZ.out.1; have := HZ.out.2.1; omega
            clear hzl hzl2 e10 hmi h11
            refine H10.mono ?_
            rintro e w' ⟨rfl, hw⟩
            rw [hw]
            clear hw H10
            have H12 := WS.look (f := 31) (args := #[.pointer (some ⟨b, 0, none⟩)]) (P := fun e => e = .returned (.int .i64 (mi - yl))) HZ.out.2.2.ws (fun F C => by
              have k := cowant_any C
              rw [e11] at k
              exact k)
            clear e11
            go_wp2_with fail
            refine H12.mono ?_
            rintro e w12 ⟨rfl, W12⟩
            have HF := hidC (show x6 = (X ++ P).length ∧ yl = Y.length ∧ WR w1 rs b (i + 1) (W + d) (lo ++ P) (win + d) (.slice (some ⟨g6, 0, none⟩) x6 c6) (.slice a10 yl c10) (X ++ P) Y w12 from ⟨HZ.out.1, HZ.out.2.1, W12, HZ.out.2.2.xy, HZ.out.2.2.win, HZ.out.2.2.yw, HZ.out.2.2.wl, HZ.out.2.2.xl⟩)
            clear H12 W12 HZ
            go_wp2
            go_roundw
            case rel => exact ⟨i + 1, W + d, x6, yl, _, _, _, _, _, _, _, _, by omega, by go_num, by go_num, rfl, rfl, HF⟩
            case measure => simp [intOf]; omega
      · have k2 : ¬ (i : Int) < n1 := by omega
        by_cases hn2 : i < n2
        · have k3 : (i : Int) < n2 := by omega
          rcases hpar2 with rfl | rfl
          · have hbq : bits .and .i64 (i : Int) 1 = 0 := hbp
            clear hbp

            obtain ⟨bk2, off2, z2, rfl, hbk2, hz2⟩ := HN2.out i hn2
            obtain ⟨mx, hmx⟩ : ∃ mx, max z2 0 = mx := ⟨_, rfl⟩
            have X0 := cmax_run z2 0 mx hmx
            have HMX : Hid (max z2 0 = mx) := hmx
            clear hmx

            have H5 := WS.call (f := 21) (args := #[.pointer (some ⟨b, 0, none⟩), .slice pa pl pc, .bool false]) (P := fun e => e = .returned (.bool true)) (s' := sx (lo ++ P) win) HR.out.2.2.ws (fun F hF C => by
              have k := cosay_any C kp P _ false (HSR.out _ C.bel) (hF kp hkw) (by omega)
              have e : sayS (sx lo win) (tot [(sx lo win).li, (sx lo win).lo]) 1048576 P false = (sx (lo ++ P) win, true) := sx_say lo P win (by have := HLEN.out; omega)
              rw [e] at k
              exact k)
            go_wp2_with fail
            refine H5.mono ?_
            rintro e w5 ⟨rfl, W5⟩
            clear H5 hcell
            obtain ⟨v6, w6, r6, W6⟩ := W5.app (HSR.out w5 W5.bel) hnil (by have := HLEN.out; omega)
            obtain ⟨⟨g6, c6, e6⟩, -⟩ := W6.form
            rw [List.length_append] at e6
            subst e6
            obtain ⟨x6, hx6⟩ : ∃ x6, x6 = X.length + P.length := ⟨_, rfl⟩
            rw [← hx6] at W6 r6
            have HX6 : Hid (x6 = X.length + P.length) := hx6
            have R6 : Hid _ := r6
            clear hx6 r6 W5
            have hz2_6 := cell_keep hz2 ((HB1.out.trans (W6.bel.mono HB1.out.size)).block bk2 hbk2)
            go_wp2_with (at_builtin; refine wpList_append_run2 rfl _ _ 31 31 rfl _ _ _ w6 rfl rfl R6.out ?_)
            clear R6

            have hwi0 : 0 ≤ win := by have := HR.out.2.2.win; have := HR.out.2.2.yw; omega
            have H8 := W6.write z2
            rw [sx_write] at H8
            obtain ⟨hN1, hN2, hN3⟩ := sx_nle (lo ++ P) win z2 hwi0
            generalize writeN (sx (lo ++ P) win) z2 = nn at *
            refine H8.mono ?_
            rintro e w8 ⟨g8, rfl, S8, W8⟩
            have hz2_8 := cell_keep hz2 ((HB1.out.trans (W8.bel.mono HB1.out.size)).block bk2 hbk2)
            have hNM : ¬ mx < (nn : Int) := by have := HMX.out; omega
            have hyl : Y.length = yl := HR.out.2.1.symm
            have hml : Y.length + ((sx (lo ++ P) win).lo.take nn).length ≤ 1000000 := by
              have q1 := HR.out.2.2.xy
              have q2 : ((sx (lo ++ P) win).lo.take nn).length ≤ (lo ++ P).length := List.length_take_le' _ _
              have q3 : X.length = Y.length + lo.length := by rw [q1, List.length_append]
              rw [List.length_append] at q2
              have := HLEN.out
              omega
            obtain ⟨v9, w9, r9, W9⟩ := W8.swap.app S8 (fun h => by cases h) hml
            have W9 := W9.swap
            obtain ⟨-, g9, c9', e9⟩ := W9.form
            rw [List.length_append, List.length_take, show (sx (lo ++ P) win).lo = lo ++ P from rfl, Nat.min_eq_left hN2, hyl] at e9
            subst e9
            have R9 : Hid _ := r9
            have k6 : ¬ ((W : Int)) < (yl : Int) + nn := by have := HR.out.2.2.win; omega
            obtain ⟨y9, hy9⟩ : ∃ y9, y9 = yl + nn := ⟨_, rfl⟩
            rw [← hy9] at W9 R9
            have k6 : ¬ ((W : Int)) < y9 := by omega
            have HY9 : Hid (y9 = yl + nn ∧ (y9 : Int) ≤ (W : Int)) := ⟨hy9, by omega⟩
            clear r9 W8 W6 H8 hyl hy9 hz2_6
            go_wp2_with (at_builtin; refine wpList_append_run2 rfl _ _ 31 31 rfl _ _ _ w9 rfl rfl R9.out ?_)
            clear R9

            have HZ : Hid (x6 = (X ++ P).length ∧ y9 = (Y ++ (lo ++ P).take nn).length ∧ WR w1 rs b (i + 1) (W) ((lo ++ P).drop nn) (win - nn) (.slice (some ⟨g6, 0, none⟩) x6 c6) (.slice (some ⟨g9, 0, none⟩) y9 c9') (X ++ P) (Y ++ (lo ++ P).take nn) w9) := by
              have q1 := HR.out.2.2.xy
              have q2 := HR.out.2.2.win
              have q3 := HR.out.2.2.yw
              have q4 := HR.out.2.2.wl
              have q5 := HR.out.2.2.xl
              have q6 := HR.out.2.1
              have q7 := HLEN.out
              refine ⟨by rw [HX6.out, List.length_append], ?_, W9, ?_, ?_, ?_, by omega, by rw [List.length_append]; omega⟩
              · rw [List.length_append, List.length_take, Nat.min_eq_left hN2, HY9.out.1, q6]
              · rw [q1, List.append_assoc, List.append_assoc, List.take_append_drop]
              · rw [List.length_append, List.length_take, Nat.min_eq_left hN2]; omega
              · rw [List.length_append, List.length_take, Nat.min_eq_left hN2]; have := HY9.out; omega
            have hzl := HZ.out.2.2.xy
            have hzl2 : (X ++ P).length = (Y ++ (lo ++ P).take nn).length + ((lo ++ P).drop nn).length := by rw [hzl, List.length_append]
            have H10 := HZ.out.2.2.ws.held
            have e10 : (((sx ((lo ++ P).drop nn) (win - nn)).li.length + (sx ((lo ++ P).drop nn) (win - nn)).lo.length : Nat) : Int) = (x6 : Int) - y9 := by
              show (((0 + ((lo ++ P).drop nn).length : Nat)) : Int) = _
              have q1 := HZ.out.1
              have q2 := HZ.out.2.1
              omega
            rw [e10] at H10
            obtain ⟨mi, hmi⟩ : ∃ mi, min (x6 : Int) ((W : Int)) = mi := ⟨_, rfl⟩
            have X1 := cmin_run x6 ((W : Int)) mi hmi
            have e11 : wantS (sx ((lo ++ P).drop nn) (win - nn)) = mi - y9 := by
              have q1 := HZ.out.1
              have q2 := HZ.out.2.1
              have q3 := HZ.out.2.2.win
              show min ((((lo ++ P).drop nn).length : Nat) : Int) (win - nn) = _
              omega
            have h11 := HZ.out.2.2.yw
            have hmi2 : 0 ≤ mi ∧ mi ≤ 100000000 := by have := HZ.out.2.2.xl; have := HZ.out.1; have := HZ.out.2.2.wl; omega
            have hx6b : (x6 : Int) ≤ 1000000 := by have := HZ.out.2.2.xl; have := HZ.out.1; omega
            have hylb : (y9 : Int) ≤ x6 := by have := HZ.out.1; have := HZ.out.2.1; omega
            clear hzl hzl2 e10 hmi h11
            refine H10.mono ?_
            rintro e w' ⟨rfl, hw⟩
            rw [hw]
            clear hw H10
            have H12 := WS.look (f := 31) (args := #[.pointer (some ⟨b, 0, none⟩)]) (P := fun e => e = .returned (.int .i64 (mi - y9))) HZ.out.2.2.ws (fun F C => by
              have k := cowant_any C
              rw [e11] at k
              exact k)
            clear e11
            go_wp2_with fail
            refine H12.mono ?_
            rintro e w12 ⟨rfl, W12⟩
            have HF := hidC (show x6 = (X ++ P).length ∧ y9 = (Y ++ (lo ++ P).take nn).length ∧ WR w1 rs b (i + 1) (W) ((lo ++ P).drop nn) (win - nn) (.slice (some ⟨g6, 0, none⟩) x6 c6) (.slice (some ⟨g9, 0, none⟩) y9 c9') (X ++ P) (Y ++ (lo ++ P).take nn) w12 from ⟨HZ.out.1, HZ.out.2.1, W12, HZ.out.2.2.xy, HZ.out.2.2.win, HZ.out.2.2.yw, HZ.out.2.2.wl, HZ.out.2.2.xl⟩)
            clear H12 W12 HZ
            go_wp2
            go_roundw
            case rel => exact ⟨i + 1, W, x6, y9, _, _, _, _, _, _, _, _, by omega, by go_num, by go_num, rfl, rfl, HF⟩
            case measure => simp [intOf]; omega
          · have hbq : bits .and .i64 (i : Int) 1 = 1 := hbp
            clear hbp

            obtain ⟨bk2, off2, z2, rfl, hbk2, hz2⟩ := HN2.out i hn2
            obtain ⟨mx, hmx⟩ : ∃ mx, max z2 0 = mx := ⟨_, rfl⟩
            have X0 := cmax_run z2 0 mx hmx
            have HMX : Hid (max z2 0 = mx) := hmx
            clear hmx

            have H5 := WS.call (f := 23) (args := #[.pointer (some ⟨b, 0, none⟩), .slice pa pl pc]) (P := fun e => e = .returned (.bool true)) (s' := sx (lo ++ P) win) HR.out.2.2.ws (fun F hF C => by
              have k := conote_any C kp P _ (HSR.out _ C.bel) (hF kp hkw)
              have e : noteS (sx lo win) (tot [(sx lo win).li, (sx lo win).lo]) 1048576 P = (sx (lo ++ P) win, true) := sx_note lo P win (by have := HLEN.out; omega)
              rw [e] at k
              exact k)
            go_wp2_with fail
            refine H5.mono ?_
            rintro e w5 ⟨rfl, W5⟩
            clear H5 hcell
            obtain ⟨v6, w6, r6, W6⟩ := W5.app (HSR.out w5 W5.bel) hnil (by have := HLEN.out; omega)
            obtain ⟨⟨g6, c6, e6⟩, -⟩ := W6.form
            rw [List.length_append] at e6
            subst e6
            obtain ⟨x6, hx6⟩ : ∃ x6, x6 = X.length + P.length := ⟨_, rfl⟩
            rw [← hx6] at W6 r6
            have HX6 : Hid (x6 = X.length + P.length) := hx6
            have R6 : Hid _ := r6
            clear hx6 r6 W5
            have hz2_6 := cell_keep hz2 ((HB1.out.trans (W6.bel.mono HB1.out.size)).block bk2 hbk2)
            go_wp2_with (at_builtin; refine wpList_append_run2 rfl _ _ 31 31 rfl _ _ _ w6 rfl rfl R6.out ?_)
            clear R6

            have hwi0 : 0 ≤ win := by have := HR.out.2.2.win; have := HR.out.2.2.yw; omega
            have H8 := W6.write z2
            rw [sx_write] at H8
            obtain ⟨hN1, hN2, hN3⟩ := sx_nle (lo ++ P) win z2 hwi0
            generalize writeN (sx (lo ++ P) win) z2 = nn at *
            refine H8.mono ?_
            rintro e w8 ⟨g8, rfl, S8, W8⟩
            have hz2_8 := cell_keep hz2 ((HB1.out.trans (W8.bel.mono HB1.out.size)).block bk2 hbk2)
            have hNM : ¬ mx < (nn : Int) := by have := HMX.out; omega
            have hyl : Y.length = yl := HR.out.2.1.symm
            have hml : Y.length + ((sx (lo ++ P) win).lo.take nn).length ≤ 1000000 := by
              have q1 := HR.out.2.2.xy
              have q2 : ((sx (lo ++ P) win).lo.take nn).length ≤ (lo ++ P).length := List.length_take_le' _ _
              have q3 : X.length = Y.length + lo.length := by rw [q1, List.length_append]
              rw [List.length_append] at q2
              have := HLEN.out
              omega
            obtain ⟨v9, w9, r9, W9⟩ := W8.swap.app S8 (fun h => by cases h) hml
            have W9 := W9.swap
            obtain ⟨-, g9, c9', e9⟩ := W9.form
            rw [List.length_append, List.length_take, show (sx (lo ++ P) win).lo = lo ++ P from rfl, Nat.min_eq_left hN2, hyl] at e9
            subst e9
            have R9 : Hid _ := r9
            have k6 : ¬ ((W : Int)) < (yl : Int) + nn := by have := HR.out.2.2.win; omega
            obtain ⟨y9, hy9⟩ : ∃ y9, y9 = yl + nn := ⟨_, rfl⟩
            rw [← hy9] at W9 R9
            have k6 : ¬ ((W : Int)) < y9 := by omega
            have HY9 : Hid (y9 = yl + nn ∧ (y9 : Int) ≤ (W : Int)) := ⟨hy9, by omega⟩
            clear r9 W8 W6 H8 hyl hy9 hz2_6
            go_wp2_with (at_builtin; refine wpList_append_run2 rfl _ _ 31 31 rfl _ _ _ w9 rfl rfl R9.out ?_)
            clear R9

            have HZ : Hid (x6 = (X ++ P).length ∧ y9 = (Y ++ (lo ++ P).take nn).length ∧ WR w1 rs b (i + 1) (W) ((lo ++ P).drop nn) (win - nn) (.slice (some ⟨g6, 0, none⟩) x6 c6) (.slice (some ⟨g9, 0, none⟩) y9 c9') (X ++ P) (Y ++ (lo ++ P).take nn) w9) := by
              have q1 := HR.out.2.2.xy
              have q2 := HR.out.2.2.win
              have q3 := HR.out.2.2.yw
              have q4 := HR.out.2.2.wl
              have q5 := HR.out.2.2.xl
              have q6 := HR.out.2.1
              have q7 := HLEN.out
              refine ⟨by rw [HX6.out, List.length_append], ?_, W9, ?_, ?_, ?_, by omega, by rw [List.length_append]; omega⟩
              · rw [List.length_append, List.length_take, Nat.min_eq_left hN2, HY9.out.1, q6]
              · rw [q1, List.append_assoc, List.append_assoc, List.take_append_drop]
              · rw [List.length_append, List.length_take, Nat.min_eq_left hN2]; omega
              · rw [List.length_append, List.length_take, Nat.min_eq_left hN2]; have := HY9.out; omega
            have hzl := HZ.out.2.2.xy
            have hzl2 : (X ++ P).length = (Y ++ (lo ++ P).take nn).length + ((lo ++ P).drop nn).length := by rw [hzl, List.length_append]
            have H10 := HZ.out.2.2.ws.held
            have e10 : (((sx ((lo ++ P).drop nn) (win - nn)).li.length + (sx ((lo ++ P).drop nn) (win - nn)).lo.length : Nat) : Int) = (x6 : Int) - y9 := by
              show (((0 + ((lo ++ P).drop nn).length : Nat)) : Int) = _
              have q1 := HZ.out.1
              have q2 := HZ.out.2.1
              omega
            rw [e10] at H10
            obtain ⟨mi, hmi⟩ : ∃ mi, min (x6 : Int) ((W : Int)) = mi := ⟨_, rfl⟩
            have X1 := cmin_run x6 ((W : Int)) mi hmi
            have e11 : wantS (sx ((lo ++ P).drop nn) (win - nn)) = mi - y9 := by
              have q1 := HZ.out.1
              have q2 := HZ.out.2.1
              have q3 := HZ.out.2.2.win
              show min ((((lo ++ P).drop nn).length : Nat) : Int) (win - nn) = _
              omega
            have h11 := HZ.out.2.2.yw
            have hmi2 : 0 ≤ mi ∧ mi ≤ 100000000 := by have := HZ.out.2.2.xl; have := HZ.out.1; have := HZ.out.2.2.wl; omega
            have hx6b : (x6 : Int) ≤ 1000000 := by have := HZ.out.2.2.xl; have := HZ.out.1; omega
            have hylb : (y9 : Int) ≤ x6 := by have := HZ.out.1; have := HZ.out.2.1; omega
            clear hzl hzl2 e10 hmi h11
            refine H10.mono ?_
            rintro e w' ⟨rfl, hw⟩
            rw [hw]
            clear hw H10
            have H12 := WS.look (f := 31) (args := #[.pointer (some ⟨b, 0, none⟩)]) (P := fun e => e = .returned (.int .i64 (mi - y9))) HZ.out.2.2.ws (fun F C => by
              have k := cowant_any C
              rw [e11] at k
              exact k)
            clear e11
            go_wp2_with fail
            refine H12.mono ?_
            rintro e w12 ⟨rfl, W12⟩
            have HF := hidC (show x6 = (X ++ P).length ∧ y9 = (Y ++ (lo ++ P).take nn).length ∧ WR w1 rs b (i + 1) (W) ((lo ++ P).drop nn) (win - nn) (.slice (some ⟨g6, 0, none⟩) x6 c6) (.slice (some ⟨g9, 0, none⟩) y9 c9') (X ++ P) (Y ++ (lo ++ P).take nn) w12 from ⟨HZ.out.1, HZ.out.2.1, W12, HZ.out.2.2.xy, HZ.out.2.2.win, HZ.out.2.2.yw, HZ.out.2.2.wl, HZ.out.2.2.xl⟩)
            clear H12 W12 HZ
            go_wp2
            go_roundw
            case rel => exact ⟨i + 1, W, x6, y9, _, _, _, _, _, _, _, _, by omega, by go_num, by go_num, rfl, rfl, HF⟩
            case measure => simp [intOf]; omega
        · have k3 : ¬ (i : Int) < n2 := by omega
          rcases hpar2 with rfl | rfl
          · have hbq : bits .and .i64 (i : Int) 1 = 0 := hbp
            clear hbp

            have H5 := WS.call (f := 21) (args := #[.pointer (some ⟨b, 0, none⟩), .slice pa pl pc, .bool false]) (P := fun e => e = .returned (.bool true)) (s' := sx (lo ++ P) win) HR.out.2.2.ws (fun F hF C => by
              have k := cosay_any C kp P _ false (HSR.out _ C.bel) (hF kp hkw) (by omega)
              have e : sayS (sx lo win) (tot [(sx lo win).li, (sx lo win).lo]) 1048576 P false = (sx (lo ++ P) win, true) := sx_say lo P win (by have := HLEN.out; omega)
              rw [e] at k
              exact k)
            go_wp2_with fail
            refine H5.mono ?_
            rintro e w5 ⟨rfl, W5⟩
            clear H5 hcell
            obtain ⟨v6, w6, r6, W6⟩ := W5.app (HSR.out w5 W5.bel) hnil (by have := HLEN.out; omega)
            obtain ⟨⟨g6, c6, e6⟩, -⟩ := W6.form
            rw [List.length_append] at e6
            subst e6
            obtain ⟨x6, hx6⟩ : ∃ x6, x6 = X.length + P.length := ⟨_, rfl⟩
            rw [← hx6] at W6 r6
            have HX6 : Hid (x6 = X.length + P.length) := hx6
            have R6 : Hid _ := r6
            clear hx6 r6 W5
            have k6 : ¬ ((W : Int)) < yl := by have := HR.out.2.1; have := HR.out.2.2.yw; omega
            go_wp2_with (at_builtin; refine wpList_append_run2 rfl _ _ 31 31 rfl _ _ _ w6 rfl rfl R6.out ?_)
            clear R6

            have HZ : Hid (x6 = (X ++ P).length ∧ yl = Y.length ∧ WR w1 rs b (i + 1) (W) (lo ++ P) win (.slice (some ⟨g6, 0, none⟩) x6 c6) (.slice a10 yl c10) (X ++ P) Y w6) := by
              have q1 := HR.out.2.2.xy
              have q2 := HR.out.2.2.win
              have q3 := HR.out.2.2.yw
              have q4 := HR.out.2.2.wl
              have q5 := HR.out.2.2.xl
              have q6 := HR.out.2.1
              have q7 := HLEN.out
              refine ⟨by rw [HX6.out, List.length_append], ?_, W6, ?_, ?_, ?_, by omega, by rw [List.length_append]; omega⟩
              · exact q6
              · rw [q1, List.append_assoc]
              · omega
              · omega
            have hzl := HZ.out.2.2.xy
            have hzl2 : (X ++ P).length = Y.length + (lo ++ P).length := by rw [hzl, List.length_append]
            have H10 := HZ.out.2.2.ws.held
            have e10 : (((sx (lo ++ P) win).li.length + (sx (lo ++ P) win).lo.length : Nat) : Int) = (x6 : Int) - yl := by
              show (((0 + (lo ++ P).length : Nat)) : Int) = _
              have q1 := HZ.out.1
              have q2 := HZ.out.2.1
              omega
            rw [e10] at H10
            obtain ⟨mi, hmi⟩ : ∃ mi, min (x6 : Int) ((W : Int)) = mi := ⟨_, rfl⟩
            have X1 := cmin_run x6 ((W : Int)) mi hmi
            have e11 : wantS (sx (lo ++ P) win) = mi - yl := by
              have q1 := HZ.out.1
              have q2 := HZ.out.2.1
              have q3 := HZ.out.2.2.win
              show min (((lo ++ P).length : Nat) : Int) win = _
              omega
            have h11 := HZ.out.2.2.yw
            have hmi2 : 0 ≤ mi ∧ mi ≤ 100000000 := by have := HZ.out.2.2.xl; have := HZ.out.1; have := HZ.out.2.2.wl; omega
            have hx6b : (x6 : Int) ≤ 1000000 := by have := HZ.out.2.2.xl; have := HZ.out.1; omega
            have hylb : (yl : Int) ≤ x6 := by have := HZ.out.1; have := HZ.out.2.1; omega
            clear hzl hzl2 e10 hmi h11
            refine H10.mono ?_
            rintro e w' ⟨rfl, hw⟩
            rw [hw]
            clear hw H10
            have H12 := WS.look (f := 31) (args := #[.pointer (some ⟨b, 0, none⟩)]) (P := fun e => e = .returned (.int .i64 (mi - yl))) HZ.out.2.2.ws (fun F C => by
              have k := cowant_any C
              rw [e11] at k
              exact k)
            clear e11
            go_wp2_with fail
            refine H12.mono ?_
            rintro e w12 ⟨rfl, W12⟩
            have HF := hidC (show x6 = (X ++ P).length ∧ yl = Y.length ∧ WR w1 rs b (i + 1) (W) (lo ++ P) win (.slice (some ⟨g6, 0, none⟩) x6 c6) (.slice a10 yl c10) (X ++ P) Y w12 from ⟨HZ.out.1, HZ.out.2.1, W12, HZ.out.2.2.xy, HZ.out.2.2.win, HZ.out.2.2.yw, HZ.out.2.2.wl, HZ.out.2.2.xl⟩)
            clear H12 W12 HZ
            go_wp2
            go_roundw
            case rel => exact ⟨i + 1, W, x6, yl, _, _, _, _, _, _, _, _, by omega, by go_num, by go_num, rfl, rfl, HF⟩
            case measure => simp [intOf]; omega
          · have hbq : bits .and .i64 (i : Int) 1 = 1 := hbp
            clear hbp

            have H5 := WS.call (f := 23) (args := #[.pointer (some ⟨b, 0, none⟩), .slice pa pl pc]) (P := fun e => e = .returned (.bool true)) (s' := sx (lo ++ P) win) HR.out.2.2.ws (fun F hF C => by
              have k := conote_any C kp P _ (HSR.out _ C.bel) (hF kp hkw)
              have e : noteS (sx lo win) (tot [(sx lo win).li, (sx lo win).lo]) 1048576 P = (sx (lo ++ P) win, true) := sx_note lo P win (by have := HLEN.out; omega)
              rw [e] at k
              exact k)
            go_wp2_with fail
            refine H5.mono ?_
            rintro e w5 ⟨rfl, W5⟩
            clear H5 hcell
            obtain ⟨v6, w6, r6, W6⟩ := W5.app (HSR.out w5 W5.bel) hnil (by have := HLEN.out; omega)
            obtain ⟨⟨g6, c6, e6⟩, -⟩ := W6.form
            rw [List.length_append] at e6
            subst e6
            obtain ⟨x6, hx6⟩ : ∃ x6, x6 = X.length + P.length := ⟨_, rfl⟩
            rw [← hx6] at W6 r6
            have HX6 : Hid (x6 = X.length + P.length) := hx6
            have R6 : Hid _ := r6
            clear hx6 r6 W5
            have k6 : ¬ ((W : Int)) < yl := by have := HR.out.2.1; have := HR.out.2.2.yw; omega
            go_wp2_with (at_builtin; refine wpList_append_run2 rfl _ _ 31 31 rfl _ _ _ w6 rfl rfl R6.out ?_)
            clear R6

            have HZ : Hid (x6 = (X ++ P).length ∧ yl = Y.length ∧ WR w1 rs b (i + 1) (W) (lo ++ P) win (.slice (some ⟨g6, 0, none⟩) x6 c6) (.slice a10 yl c10) (X ++ P) Y w6) := by
              have q1 := HR.out.2.2.xy
              have q2 := HR.out.2.2.win
              have q3 := HR.out.2.2.yw
              have q4 := HR.out.2.2.wl
              have q5 := HR.out.2.2.xl
              have q6 := HR.out.2.1
              have q7 := HLEN.out
              refine ⟨by rw [HX6.out, List.length_append], ?_, W6, ?_, ?_, ?_, by omega, by rw [List.length_append]; omega⟩
              · exact q6
              · rw [q1, List.append_assoc]
              · omega
              · omega
            have hzl := HZ.out.2.2.xy
            have hzl2 : (X ++ P).length = Y.length + (lo ++ P).length := by rw [hzl, List.length_append]
            have H10 := HZ.out.2.2.ws.held
            have e10 : (((sx (lo ++ P) win).li.length + (sx (lo ++ P) win).lo.length : Nat) : Int) = (x6 : Int) - yl := by
              show (((0 + (lo ++ P).length : Nat)) : Int) = _
              have q1 := HZ.out.1
              have q2 := HZ.out.2.1
              omega
            rw [e10] at H10
            obtain ⟨mi, hmi⟩ : ∃ mi, min (x6 : Int) ((W : Int)) = mi := ⟨_, rfl⟩
            have X1 := cmin_run x6 ((W : Int)) mi hmi
            have e11 : wantS (sx (lo ++ P) win) = mi - yl := by
              have q1 := HZ.out.1
              have q2 := HZ.out.2.1
              have q3 := HZ.out.2.2.win
              show min (((lo ++ P).length : Nat) : Int) win = _
              omega
            have h11 := HZ.out.2.2.yw
            have hmi2 : 0 ≤ mi ∧ mi ≤ 100000000 := by have := HZ.out.2.2.xl; have := HZ.out.1; have := HZ.out.2.2.wl; omega
            have hx6b : (x6 : Int) ≤ 1000000 := by have := HZ.out.2.2.xl; have := HZ.out.1; omega
            have hylb : (yl : Int) ≤ x6 := by have := HZ.out.1; have := HZ.out.2.1; omega
            clear hzl hzl2 e10 hmi h11
            refine H10.mono ?_
            rintro e w' ⟨rfl, hw⟩
            rw [hw]
            clear hw H10
            have H12 := WS.look (f := 31) (args := #[.pointer (some ⟨b, 0, none⟩)]) (P := fun e => e = .returned (.int .i64 (mi - yl))) HZ.out.2.2.ws (fun F C => by
              have k := cowant_any C
              rw [e11] at k
              exact k)
            clear e11
            go_wp2_with fail
            refine H12.mono ?_
            rintro e w12 ⟨rfl, W12⟩
            have HF := hidC (show x6 = (X ++ P).length ∧ yl = Y.length ∧ WR w1 rs b (i + 1) (W) (lo ++ P) win (.slice (some ⟨g6, 0, none⟩) x6 c6) (.slice a10 yl c10) (X ++ P) Y w12 from ⟨HZ.out.1, HZ.out.2.1, W12, HZ.out.2.2.xy, HZ.out.2.2.win, HZ.out.2.2.yw, HZ.out.2.2.wl, HZ.out.2.2.xl⟩)
            clear H12 W12 HZ
            go_wp2
            go_roundw
            case rel => exact ⟨i + 1, W, x6, yl, _, _, _, _, _, _, _, _, by omega, by go_num, by go_num, rfl, rfl, HF⟩
            case measure => simp [intOf]; omega
    · have k1 : ¬ (i : Int) < n0 := by omega
      clear HP HN1 HN2
      obtain ⟨hxl, hyl, R⟩ := HR.out
      have hx1 : X.length ≤ 1000000 := by have := R.xl; omega
      have hl1 : lo.length ≤ 1000000 := by have := R.xy; rw [this, List.length_append] at hx1; omega
      have hw0 : 0 ≤ win := by have := R.win; have := R.yw; omega
      have hw1 : win ≤ 1073741824 := by have := R.win; have := R.wl; omega
      have H5 := WS.call (f := 25) (args := #[.pointer (some ⟨b, 0, none⟩), .int .i64 1073741824]) (P := fun e => e = .returned (.tuple #[])) (s' := sx lo 1073741824) R.ws (fun F _ C => by
        have k := cowindow_any C 1073741824
        rw [sx_win2 lo win hw0 hw1] at k
        exact k)
      have HXY : Hid (X = Y ++ lo) := R.xy
      have HXL : Hid (xl = X.length ∧ yl = Y.length ∧ X.length ≤ 1000000 ∧ lo.length ≤ 1000000) := ⟨hxl, hyl, hx1, hl1⟩
      clear R HR hw0 hw1 hxl hyl hx1 hl1
      go_wp2_with fail
      refine H5.mono ?_
      rintro e w5 ⟨rfl, W5⟩
      clear H5
      have H6 := W5.write 4611686018427387904
      rw [sx_n2 lo HXL.out.2.2.2, show (sx lo 1073741824).lo = lo from rfl, List.take_length, sx_write, sx_n2 lo HXL.out.2.2.2, List.drop_length] at H6
      obtain ⟨ll, hll⟩ : ∃ ll, ll = lo.length := ⟨_, rfl⟩
      rw [← hll] at H6
      have HLL : Hid (ll = lo.length) := hll
      clear hll
      go_wp2_with fail
      refine H6.mono ?_
      rintro e w6 ⟨g, rfl, S6, W6⟩
      obtain ⟨v7, w7, r7, W7⟩ := W6.swap.app S6 (fun h => by cases h) (by have := HXY.out; have := HXL.out.2.2.1; simp_all)
      have W7 := W7.swap
      rw [← HXY.out] at W7
      have R7 : Hid _ := r7
      clear H6 W5 W6 S6 r7
      have H8 := W7.same
      go_wp2_with (at_builtin; refine wpList_append_run2 rfl _ _ 31 31 rfl _ _ _ w7 rfl rfl R7.out ?_)
      refine H8.mono ?_
      rintro e w8 ⟨rfl, W8⟩
      clear H8 W7 R7
      have H9 := W8.held
      rw [show ((((sx [] (1073741824 - (ll : Int))).li.length + (sx [] (1073741824 - (ll : Int))).lo.length : Nat)) : Int) = 0 from rfl] at H9
      go_wp2_with fail
      refine H9.mono ?_
      rintro e w' ⟨rfl, hw⟩
      rw [hw]
      clear hw H9
      obtain ⟨gx, gy, _, _, _, _, _, _, _, C8⟩ := W8
      have C8 := C8.weak (F' := fun k => k < w1.heap.size ∨ k = b) (fun j hj => by rcases hj with k | k; exact .inl k; exact .inr (.inl k)) (.inr rfl)
      generalize 1073741824 - (ll : Int) = kk at *

      have hcs := fun C : Array Value => conv_same w8 C 3 3
      go_wp2_with fail
      refine (cofeed_new C8 ((Below.refl _ _).alloc (Nat.le_refl _) _) w8.heap.size [71, 69, 84] _ (lit_src w8 [71, 69, 84] 3 _ _ rfl (by decide) rfl) (.inr ⟨Nat.le_refl _, by simp⟩)).mono ?_
      rw [show feedS (sx [] kk) (tot [(sx [] kk).li, (sx [] kk).lo]) 1048576 [71, 69, 84] = (⟨[71, 69, 84], [], kk, false, false, false⟩, true) from sx_feed kk]
      rintro e w9 ⟨rfl, A9⟩
      have C9 : Cn (fun k => k < w1.heap.size ∨ k = b) w1 w9 w1.heap.size rs [[71, 69, 84], []] 1048576 b 0 ⟨[71, 69, 84], [], kk, false, false, false⟩ := A9.1
      clear A9 C8 hcs
      have hcs := fun C : Array Value => conv_same w9 C 1 1
      go_wp2_with fail
      refine (conote_new C9 ((Below.refl _ _).alloc (Nat.le_refl _) _) w9.heap.size [120] _ (lit_src w9 [120] 1 _ _ rfl (by decide) rfl) (.inr ⟨Nat.le_refl _, by simp⟩)).mono ?_
      rw [sx_note2 kk]
      rintro e w10 ⟨rfl, A10⟩
      have C10 : Cn (fun k => k < w1.heap.size ∨ k = b) w1 w10 w1.heap.size rs [[71, 69, 84], [120]] 1048576 b 0 ⟨[71, 69, 84], [120], kk, false, false, false⟩ := A10.1
      clear A10 C9 hcs
      go_wp2_with fail
      refine (codrop_any C10).mono ?_
      rw [sx_drop kk]
      rintro e w11 ⟨rfl, A11⟩
      have C11 : Cn (fun k => k < w1.heap.size ∨ k = b) w1 w11 w1.heap.size rs [[], []] 1048576 b 0 ⟨[], [], kk, false, false, true⟩ := A11.1
      clear A11 C10
      obtain ⟨p, HK⟩ := C11.many
      have HD := held_q w1.heap.size 1048576 _ p w11 HK.isM
      rw [show (((tot [[], []] : Nat)) : Int) = 0 from rfl] at HD
      clear HK
      go_wp2_with fail
      refine HD.mono ?_
      rintro e w' ⟨rfl, hw⟩
      rw [hw]
      clear hw HD
      go_wp2_with fail
      refine (codone_any C11).mono ?_
      rw [show doneS ⟨[], [], kk, false, false, true⟩ = true from rfl]
      rintro e w' ⟨rfl, hw⟩
      rw [hw]
      clear hw
      have hcs := fun C : Array Value => conv_same w11 C 4 4
      go_wp2_with fail
      refine (cofeed_new C11 ((Below.refl _ _).alloc (Nat.le_refl _) _) w11.heap.size [109, 111, 114, 101] _ (lit_src w11 [109, 111, 114, 101] 4 _ _ rfl (by decide) rfl) (.inr ⟨Nat.le_refl _, by simp⟩)).mono ?_
      rw [sx_feed3 kk]
      rintro e w12 ⟨rfl, A12⟩
      have C12 : Cn (fun k => k < w1.heap.size ∨ k = b) w1 w12 w1.heap.size rs [[], []] 1048576 b 0 ⟨[], [], kk, false, false, true⟩ := A12.1
      clear A12 C11 hcs
      have HL := coheld_any C12
      rw [show (((⟨[], [], kk, false, false, true⟩ : Cs).li.length + (⟨[], [], kk, false, false, true⟩ : Cs).lo.length : Nat) : Int) = 0 from rfl] at HL
      go_wp2_with fail
      refine HL.mono ?_
      rintro e w13 ⟨rfl, B13⟩
      have C13 := C12.below B13
      have HE : Hid (Below w.heap.size w w13) := HB1.out.trans (C13.bel.mono HB1.out.size)
      clear HL C12 C13 B13
      go_wp2
      go_ret
      exact ⟨rfl, HE.out⟩
end Go.Proofs.YtemmmdhmkegaaaaGreatDoor

/- Whatever is said, whatever the windows and the writes, ConnWrites answers true: what is said is written, in its order, never more than the window, and the meter holds what is left; no condition. -/
namespace Go.Proofs.YtemmmdhmkegaaaaGreatDoor.connWrites
open Go.ChangeShapes Go.WideShapes Go.ChangeAt Go.RowKit
open Go.ChangeMaps (open_string shut_string)
set_option linter.unusedVariables false

theorem own : ownKnob Tryz.prog.godebug = none := by kernel_rfl
theorem laidOut : laidOutB Tryz.prog = true := by kernel_rfl
theorem maxL_of {W : World} (hsh : W.ShapedOpen Tryz.prog) : MaxL W :=
  cell_of_shapedOpen_int (P := Tryz.prog) (g := 0) (t := 3) (zero := #[.int .i64 0]) hsh (of_decide_eq_true (by kernel_rfl)) (by kernel_rfl) rfl (by kernel_rfl) (by kernel_rfl) Tryz.underlying3
noncomputable def laidWorld (os : Os) : World := World.laidAll Tryz.prog os Rows.connWritesRow.laid
theorem laid_met (os : Os) : laidMetH Tryz.prog Rows.connWritesRow.laid ((laidWorld os).forCall (fun _ _ => 0) ⟨#[], #[.slice none 0 0, .slice none 0 0, .slice none 0 0], []⟩).memory := by
  rw [MakeChecks.laidMetH_plain _ _ _ (by kernel_rfl)]
  exact laidMet_laidAll _ (by kernel_rfl) (by kernel_rfl)
set_option maxRecDepth 100000 in
theorem lifted (os : Os) (started : os.Started) (H : Type) (enc : TypeId × Value → H) (F : Stop.Interp) :
    ReturnsInHanded {} Tryz.checked os 5 .any ((OpenSpec.ofChange Rows.connWritesSpec).preRow enc Tryz.prog Tryz.f5 Rows.connWritesRow.domain false Rows.connWritesRow.laid) (((OpenSpec.ofChange Rows.connWritesSpec).at F).post enc Tryz.prog Tryz.f5 false true false false) := by
  obtain ⟨places, hx⟩ := (⟨[], by kernel_rfl⟩ : ∃ places, DataW.whole enc Tryz.prog ((laidWorld os).forCall (fun _ _ => 0) ⟨#[], #[.slice none 0 0, .slice none 0 0, .slice none 0 0], []⟩).memory Tryz.f5.params.toList Rows.connWritesSpec.vars false (#[.slice none 0 0, .slice none 0 0, .slice none 0 0] : Array Value).toList 8 = some ([.nil, .nil, .nil], [], places))
  refine returnsInHanded_of_row (C := Tryz.checked) (s := OpenSpec.ofChange Rows.connWritesSpec) own started (by kernel_rfl) Tryz.func5
    (witness_row_atRef (enc := enc) (C := Tryz.checked) false (laidWorld os) #[.slice none 0 0, .slice none 0 0, .slice none 0 0] rfl (by kernel_rfl) (by kernel_rfl) (by kernel_rfl)
      (OpenSpec.preRow_of_cond 8 hx (by kernel_rfl) (fun k hk => by cases hk) (by kernel_rfl) (laid_met os))) ?_
  intro W base args ds gs before hval0 hW _ hcond hsz hlaid hsh _
  have hM := maxL_of hsh
  clear hsh
  have hval : ∀ (j : Nat) t v, Tryz.f5.params[j]? = some t → args[j]? = some v → Value.okWide Tryz.prog W .any base t v := hval0
  have hW' := hW
  obtain ⟨p, q, hA0, hV, rfl, hfz, hnd⟩ := hW
  have hA : DataW.TrodAll enc Tryz.prog W 0 (fun _ => true) true Tryz.f5.params.toList args.toList ds p := hA0
  rw [Tryz.params5] at hA hval
  obtain ⟨v0, vs0, d0, ds0, p0, q0, hargs, rfl, rfl, h0, r0⟩ := trodAll_cons hA
  obtain ⟨v1, vs1, d1, ds1, p1, q1, rfl, rfl, rfl, h1, r1⟩ := trodAll_cons r0
  obtain ⟨v2, vs2, d2, ds2, p2, q2, rfl, rfl, rfl, h2, r2⟩ := trodAll_cons r1
  obtain ⟨rfl, rfl, rfl⟩ := trodAll_nil r2
  obtain rfl : args = #[v0, v1, v2] := by cases args; simp_all
  obtain ⟨rfl, rfl⟩ := trodVars_none hV
  obtain ⟨a0, len0, cap0, rfl⟩ := okWide_slice Tryz.underlying68 (hval 0 68 v0 rfl rfl)
  have k0 := h0
  have lt0 : ∀ x ∈ p0, x.block < W.heap.size := by obtain ⟨m, hm⟩ := k0; exact DataW.trod_lt m _ _ _ hm
  have w0 := open_bytess h0
  obtain ⟨a1, len1, cap1, rfl⟩ := okWide_slice Tryz.underlying63 (hval 1 63 v1 rfl rfl)
  have k1 := h1
  have lt1 : ∀ x ∈ p1, x.block < W.heap.size := by obtain ⟨m, hm⟩ := k1; exact DataW.trod_lt m _ _ _ hm
  have w1 := open_nums h1
  obtain ⟨a2, len2, cap2, rfl⟩ := okWide_slice Tryz.underlying63 (hval 2 63 v2 rfl rfl)
  have k2 := h2
  have lt2 : ∀ x ∈ p2, x.block < W.heap.size := by obtain ⟨m, hm⟩ := k2; exact DataW.trod_lt m _ _ _ hm
  have w2 := open_nums h2
  clear hA0 hval0
  refine (writes18_walk a0 len0 cap0 a1 len1 cap1 a2 len2 cap2 W w0 w1 w2 hM).mono fun e W' ⟨he, bel⟩ => ?_
  subst he
  exact ⟨_, rfl, _, _, _, [], _, [], hW', trodAll_mk1 (shut_bool Tryz.underlying4 _), (trodAll_cons_mk (Below.trod laidOut (by kernel_rfl) (of_decide_eq_true (by kernel_rfl)) k0 bel lt0) (trodAll_cons_mk (Below.trod laidOut (by kernel_rfl) (of_decide_eq_true (by kernel_rfl)) k1 bel lt1) (trodAll_cons_mk (Below.trod laidOut (by kernel_rfl) (of_decide_eq_true (by kernel_rfl)) k2 bel lt2) trodAll_mk0))), rfl, bel.frame _, fun h => by cases h⟩

theorem over : Rows.ConnWritesSaid :=
  OpenClaim.holds_of_cond 5 Tryz.f5 rfl rfl rfl rfl rfl rfl rfl ⟨rfl, rfl, rfl, rfl, rfl⟩ rfl rfl rfl rfl rfl (by kernel_rfl) Tryz.func5 (by kernel_rfl)
    (of_decide_eq_true (by kernel_rfl)) (by unfold Func.isWrapper; first | (rw [if_pos (by decide +kernel)]; kernel_rfl) | (rw [if_neg (by decide +kernel)]; exact ⟨rfl, rfl⟩))
    (fun os started H enc _ F => by rw [OpenClaim.pre_eq_preRow]; exact lifted os started H enc F)

end Go.Proofs.YtemmmdhmkegaaaaGreatDoor.connWrites
namespace Go.Proofs.YtemmmdhmkegaaaaGreatDoor
/-- The statement: the tied card. -/
theorem connWrites_holds : Rows.ConnWritesCardSaid :=
  Claim7.holds_tied_plain_at .later [] _ _ _ _
    connWrites.over (fun _ h => by cases h) (by kernel_rfl) (fun _ h => by cases h) connWrites_row_tie rfl ⟨rfl, rfl⟩ (by kernel_rfl) rfl
    (fun f fn hf hfn => by
      obtain rfl : f = 5 := Option.some.inj ((show Tryz.prog.funcNamed "tollbar/tollbarlaw18.ConnWrites" = some 5 by kernel_rfl).symm.trans hf) |>.symm
      obtain rfl : fn = Tryz.f5 := (Option.some.inj (Tryz.func5.symm.trans hfn)).symm
      exact ⟨by kernel_rfl, fun j t ht => by
        rw [Tryz.params5] at ht
        have hm : t ∈ [68, 63, 63] := by simpa using Array.mem_of_getElem? ht
        have hall : ([68, 63, 63].all fun u => !Tryz.prog.wantsStandIn u) = true := by kernel_rfl
        exact (show Tryz.prog.wantsStandIn t = false by simpa using List.all_eq_true.1 hall t hm)⟩)
    (by kernel_rfl)
#print axioms connWrites_holds
end Go.Proofs.YtemmmdhmkegaaaaGreatDoor
