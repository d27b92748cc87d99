/- Whatever the two numbers, ConnFull answers true: what the meter has no room for is not taken by Feed, Say and Note, what was there stays, and another connection has the room that is given back; no condition. -/
import Derived.Test.YtemmmdhmkegaaaaGreatDoorCb5
import Derived.Test.YtemmmdhmkegaaaaGreatDoorCb2
import Derived.Test.YtemmmdhmkegaaaaGreatDoorRows
import Derived.Test.YtemmmdhmkegaaaaGreatDoorCards
import Derived.Test.YtemmmdhmkegaaaaGreatDoorTie
import Derived.WalkKit
import Derived.ProofKit
import Derived.OpenShut
import Derived.ShutString
import Derived.ChangeOld
import Derived.Below
import Derived.LaidMore
import Derived.Lay
import Derived.Stop.Joined
import Derived.SevenTiedAt
import Derived.Shelf.Vars
import Derived.Deep.DeepHandedRow
import Derived.Deep.DeepWitnessRowRef
/- ConnCloses: the walk. -/
namespace Go.Proofs.YtemmmdhmkegaaaaGreatDoor
open Go.RowKit
set_option linter.unusedVariables false

theorem MaxL.pos {w : World} (h : MaxL w) : 0 < w.heap.size := by
  obtain ⟨m, h⟩ := h
  rcases Nat.eq_zero_or_pos w.heap.size with e | e
  · have : w.heap = #[] := Array.eq_empty_of_size_eq_zero e
    simp [World.cell?, this] at h
  · exact e
/-- Bytes that came in lie below. -/
theorem Src.low {w : World} {k : Nat} {v : Value} {x : List UInt8} (h : Src w k v x) (hk : 0 < x.length → k < w.heap.size) (hM : MaxL w) : ∃ k', k' < w.heap.size ∧ Src w k' v x := by
  obtain ⟨k', c, s⟩ := h.any (g := 0) hk
  refine ⟨k', ?_, s⟩
  rcases c with c | c
  · exact c
  · rw [c]; exact hM.pos
def b58 : List UInt8 := [71, 69, 84, 32, 47, 32, 72, 84, 84, 80, 47, 49, 46, 49, 13, 10, 72, 111, 115, 116, 58, 32, 97, 13, 10, 13, 10, 71, 69, 84, 32, 47, 110, 101, 120, 116, 32, 72, 84, 84, 80, 47, 49, 46, 49, 13, 10, 72, 111, 115, 116, 58, 32, 97, 13, 10, 13, 10]
def b31 : List UInt8 := [71, 69, 84, 32, 47, 110, 101, 120, 116, 32, 72, 84, 84, 80, 47, 49, 46, 49, 13, 10, 72, 111, 115, 116, 58, 32, 97, 13, 10, 13, 10]
def r31 : Rd := ⟨⟨#[71, 69, 84]⟩, ⟨#[47, 110, 101, 120, 116]⟩, 1, [(⟨#[72, 111, 115, 116]⟩, ⟨#[97]⟩)], [], 31, 0⟩
theorem req58 : reqQ b58 = r29 := by kernel_rfl
theorem req31 : reqQ b31 = r31 := by kernel_rfl
theorem cl_feed : feedS newS (tot [[], []]) 1048576 b58 = (⟨b58, [], 0, false, false, false⟩, true) := by kernel_rfl
theorem cl_next1 : nextS ⟨b58, [], 0, false, false, false⟩ = (⟨b31, [], 0, true, false, false⟩, r29, 0) := by unfold nextS; rw [show reqQ b58 = r29 from req58]; kernel_rfl
theorem cl_next2 (f : List UInt8) : nextS ⟨b31, f, 0, false, false, false⟩ = (⟨[], f, 0, true, false, false⟩, r31, 0) := by
  unfold nextS
  simp only [Bool.false_eq_true, if_false]
  rw [show reqQ b31 = r31 from req31]
  rfl
theorem tot2 (a c : List UInt8) : tot [a, c] = a.length + c.length := by simp [tot]
theorem cl_say1 (f : List UInt8) (h : f.length ≤ 1000) : sayS ⟨b31, [], 0, true, false, false⟩ (tot [b31, []]) 1048576 f false = (⟨b31, f, 0, false, false, false⟩, true) := by
  unfold sayS noteS say2
  rw [tot2]
  simp only [Bool.false_eq_true, if_false, List.length_nil, List.nil_append]
  rw [if_pos (by have : b31.length = 31 := rfl; omega)]
theorem cl_feed2 (f mo : List UInt8) (h : f.length ≤ 1000) (k : mo.length ≤ 1000) : feedS ⟨[], f, 0, true, false, false⟩ (tot [[], f]) 1048576 mo = (⟨mo, f, 0, true, false, false⟩, true) := by
  unfold feedS
  rw [tot2, if_neg (by simp), if_pos (by simp; omega)]
  rfl
theorem cl_say2 (f l mo : List UInt8) (h : f.length ≤ 1000) (k : l.length ≤ 1000) : sayS ⟨mo, f, 0, true, false, false⟩ (tot [mo, f]) 1048576 l true = (⟨[], f ++ l, 0, false, false, true⟩, true) := by
  unfold sayS noteS say2 shutS
  rw [tot2]
  simp only [Bool.false_eq_true, if_false, if_true, List.length_nil]
  rw [if_pos (by omega)]
theorem cl_feed3 (x mo : List UInt8) : feedS ⟨[], x, 0, false, false, true⟩ (tot [[], x]) 1048576 mo = (⟨[], x, 0, false, false, true⟩, true) := rfl
theorem cl_wait (x : List UInt8) : waitS ⟨[], x, 0, false, false, true⟩ = (⟨[], x, 0, false, false, true⟩, false) := rfl
theorem cl_next3 (x : List UInt8) : nextS ⟨[], x, 0, false, false, true⟩ = (⟨[], x, 0, false, false, true⟩, rdNo 0, -1) := rfl
theorem cl_win (x : List UInt8) (h : x.length ≤ 2000) : windowS ⟨[], x, 0, false, false, true⟩ x.length = ⟨[], x, x.length, false, false, true⟩ := by
  unfold windowS
  simp only [Cs.mk.injEq, true_and, and_true]
  omega
theorem cl_n (x : List UInt8) (h : x.length ≤ 2000) : writeN ⟨[], x, x.length, false, false, true⟩ 1073741824 = x.length := by
  unfold writeN wantS
  simp only
  omega
theorem cl_write (x : List UInt8) (h : x.length ≤ 2000) : writeS ⟨[], x, x.length, false, false, true⟩ 1073741824 = ⟨[], [], 0, false, false, true⟩ := by
  unfold writeS
  rw [cl_n x h]
  simp only [List.drop_length, Int.sub_self]
set_option maxRecDepth 100000 in
set_option maxHeartbeats 4000000 in
theorem closes18_walk (k0 n0 c0 : Nat) (a0 : Option Addr) (f : List UInt8) (k1 n1 c1 : Nat) (a1 : Option Addr) (l : List UInt8) (k2 n2 c2 : Nat) (a2 : Option Addr) (mo : List UInt8) (w : World)
    (h0 : Src w k0 (.slice a0 n0 c0) f) (q0 : 0 < f.length → k0 < w.heap.size) (z0 : a0 = none → c0 = 0) (h1 : Src w k1 (.slice a1 n1 c1) l) (q1 : 0 < l.length → k1 < w.heap.size) (z1 : a1 = none → c1 = 0)
    (h2 : Src w k2 (.slice a2 n2 c2) mo) (q2 : 0 < mo.length → k2 < w.heap.size) (hM : MaxL w) :
    Calls Tryz.prog 7 #[.slice a0 n0 c0, .slice a1 n1 c1, .slice a2 n2 c2] w fun e w' => e = .returned (.bool true) ∧ Below w.heap.size w w' := by
  obtain ⟨k0', p0, s0⟩ := h0.low q0 hM
  obtain ⟨k1', p1, s1⟩ := h1.low q1 hM
  obtain ⟨k2', p2, s2⟩ := h2.low q2 hM
  obtain ⟨e0, _, _⟩ := h0.len
  obtain ⟨e1, _, _⟩ := h1.len
  obtain ⟨e2, _, _⟩ := h2.len
  subst e0 e1 e2
  have S0 : Hid (Src w k0' (.slice a0 f.length c0) f) := s0
  have S1 : Hid (Src w k1' (.slice a1 l.length c1) l) := s1
  have S2 : Hid (Src w k2' (.slice a2 mo.length c2) mo) := s2
  have HM : Hid (MaxL w) := hM
  have HA := alive18_any w hM
  clear hM h0 h1 h2 q0 q1 q2 s0 s1 s2
  by_cases g0 : 1000 < f.length
  · clear S0 S1 S2
    generalize f.length = n at *
    go_enter Tryz.func7, Tryz.ntmps7
    go_wp2_with fail
    refine HA.mono ?_
    rintro e w1 ⟨rfl, B1⟩
    go_wp2
    go_ret
    exact ⟨rfl, B1⟩
  by_cases g1 : 1000 < l.length
  · clear S0 S1 S2
    generalize f.length = n at *
    generalize l.length = n1 at *
    go_enter Tryz.func7, Tryz.ntmps7
    go_wp2_with fail
    refine HA.mono ?_
    rintro e w1 ⟨rfl, B1⟩
    go_wp2
    go_ret
    exact ⟨rfl, B1⟩
  by_cases g2 : 1000 < mo.length
  · clear S0 S1 S2
    generalize f.length = n at *
    generalize l.length = n1 at *
    generalize mo.length = n2 at *
    go_enter Tryz.func7, Tryz.ntmps7
    go_wp2_with fail
    refine HA.mono ?_
    rintro e w1 ⟨rfl, B1⟩
    go_wp2
    go_ret
    exact ⟨rfl, B1⟩
  have hf : f.length ≤ 1000 := by omega
  have hl : l.length ≤ 1000 := by omega
  have hm : mo.length ≤ 1000 := by omega
  go_enter Tryz.func7, Tryz.ntmps7
  go_wp2_with fail
  refine HA.mono ?_
  rintro e w1 ⟨rfl, B1⟩
  clear HA
  have HMB : Hid (∀ W, Below w1.heap.size w1 W → MaxL W) := fun W b => (HM.out.below B1).below b
  have S0 : Hid (∀ W, Below w1.heap.size w1 W → Src W k0' (.slice a0 f.length c0) f ∧ k0' < w1.heap.size) := fun W b => ⟨(S0.out.below p0 B1).below (Nat.lt_of_lt_of_le p0 B1.size) b, Nat.lt_of_lt_of_le p0 B1.size⟩
  have S1 : Hid (∀ W, Below w1.heap.size w1 W → Src W k1' (.slice a1 l.length c1) l ∧ k1' < w1.heap.size) := fun W b => ⟨(S1.out.below p1 B1).below (Nat.lt_of_lt_of_le p1 B1.size) b, Nat.lt_of_lt_of_le p1 B1.size⟩
  have S2 : Hid (∀ W, Below w1.heap.size w1 W → Src W k2' (.slice a2 mo.length c2) mo ∧ k2' < w1.heap.size) := fun W b => ⟨(S2.out.below p2 B1).below (Nat.lt_of_lt_of_le p2 B1.size) b, Nat.lt_of_lt_of_le p2 B1.size⟩
  have HB1 : Hid (Below w.heap.size w w1) := B1
  clear B1 HM
  obtain ⟨fn, hfn⟩ : ∃ n, n = f.length := ⟨_, rfl⟩
  obtain ⟨ln, hln⟩ : ∃ n, n = l.length := ⟨_, rfl⟩
  obtain ⟨mn, hmn⟩ : ∃ n, n = mo.length := ⟨_, rfl⟩
  rw [← hfn] at S0 ⊢
  rw [← hln] at S1 ⊢
  rw [← hmn] at S2 ⊢
  have y0 : ¬ (1000 : Int) < fn := by omega
  have y1 : ¬ (1000 : Int) < ln := by omega
  have y2 : ¬ (1000 : Int) < mn := by omega
  have HF : Hid (fn = f.length ∧ f.length ≤ 1000) := ⟨hfn, hf⟩
  have HL : Hid (ln = l.length ∧ l.length ≤ 1000) := ⟨hln, hl⟩
  have HN : Hid (mn = mo.length ∧ mo.length ≤ 1000) := ⟨hmn, hm⟩
  clear g0 g1 g2 hf hl hm hfn hln hmn
  go_wp2_with fail
  refine (new_any 1048576 _).mono ?_
  rintro e w2 ⟨rfl, hw2⟩
  have M0 : Many (fun k => k < w1.heap.size) w1 w2 w1.heap.size [] [] 1048576 0 := by rw [hw2]; exact isM_start 1048576 (by decide) (by decide)
  clear hw2 y0 y1 y2
  go_wp2_with fail
  refine (conew_any M0).mono ?_
  rintro e w3 ⟨b, rs, rfl, hb, C0, hrl, B0⟩
  have hb1 : w1.heap.size < b := by have := M0.isM.lt; omega
  have C3 : Cn (fun k => k < w1.heap.size ∨ k = b) w1 w3 w1.heap.size rs [[], []] 1048576 b 0 newS := C0
  clear C0 M0 B0 hb
  have hcs := fun C : Array Value => conv_same w3 C 58 58
  go_wp2_with fail
  refine (cofeed_new C3 ((Below.refl _ _).alloc (Nat.le_refl _) _) w3.heap.size b58 _ (lit_src w3 b58 58 _ _ rfl (by decide) rfl) (.inr ⟨Nat.le_refl _, by simp⟩)).mono ?_
  rw [cl_feed]
  rintro e w4 ⟨rfl, A4⟩
  have C4 : Cn (fun k => k < w1.heap.size ∨ k = b) w1 w4 w1.heap.size rs [b58, []] 1048576 b 0 ⟨b58, [], 0, false, false, false⟩ := A4.1
  clear A4 C3 hcs
  have HX := conext_any C4 (by decide) (HMB.out _ C4.bel)
  rw [cl_next1] at HX
  unfold nxV r29 at HX
  simp only at HX
  go_wp2_with fail
  refine HX.mono ?_
  rintro e w5 ⟨fa, ba, fc, bc, rfl, -, -, A5⟩
  have C5 : Cn (fun k => k < w1.heap.size ∨ k = b) w1 w5 w1.heap.size rs [b31, []] 1048576 b 0 ⟨b31, [], 0, true, false, false⟩ := A5.1
  clear HX A5 C4
  have C6 := C5.below ((Below.refl _ _).alloc (Nat.le_refl _) (.cells #[.string ⟨#[71, 69, 84]⟩, .string ⟨#[47]⟩, .int .i64 1, .slice fa 1 fc, .slice ba 0 bc] 43))
  clear C5
  go_wp2_with fail
  generalize w5.alloc (.cells #[.string ⟨#[71, 69, 84]⟩, .string ⟨#[47]⟩, .int .i64 1, .slice fa 1 fc, .slice ba 0 bc] 43) = w6 at *
  obtain ⟨s0, p0'⟩ := S0.out w6 C6.bel
  refine (cosay_any C6 k0' f _ false s0 (.inl p0') (by omega)).mono ?_
  rw [cl_say1 f HF.out.2]
  rintro e w7 ⟨rfl, A7⟩
  have C7 : Cn (fun k => k < w1.heap.size ∨ k = b) w1 w7 w1.heap.size rs [b31, f] 1048576 b 0 ⟨b31, f, 0, false, false, false⟩ := A7.1
  clear A7 C6 s0 p0'
  have HX := conext_any C7 (show b31.length ≤ 6144 by decide) (HMB.out _ C7.bel)
  rw [cl_next2] at HX
  unfold nxV r31 at HX
  simp only at HX
  go_wp2_with fail
  refine HX.mono ?_
  rintro e w8 ⟨fa8, ba8, fc8, bc8, rfl, -, -, A8⟩
  have C8 : Cn (fun k => k < w1.heap.size ∨ k = b) w1 w8 w1.heap.size rs [[], f] 1048576 b 0 ⟨[], f, 0, true, false, false⟩ := A8.1
  clear HX A8 C7
  have C9 := C8.below ((Below.refl _ _).alloc (Nat.le_refl _) (.cells #[.string ⟨#[71, 69, 84]⟩, .string ⟨#[47, 110, 101, 120, 116]⟩, .int .i64 1, .slice fa8 1 fc8, .slice ba8 0 bc8] 43))
  clear C8
  go_wp2_with fail
  generalize w8.alloc (.cells #[.string ⟨#[71, 69, 84]⟩, .string ⟨#[47, 110, 101, 120, 116]⟩, .int .i64 1, .slice fa8 1 fc8, .slice ba8 0 bc8] 43) = w9 at *
  obtain ⟨s2, p2'⟩ := S2.out w9 C9.bel
  refine (cofeed_any C9 k2' mo _ s2 (.inl p2')).mono ?_
  rw [cl_feed2 f mo HF.out.2 HN.out.2]
  rintro e w10 ⟨rfl, A10⟩
  have C10 : Cn (fun k => k < w1.heap.size ∨ k = b) w1 w10 w1.heap.size rs [mo, f] 1048576 b 0 ⟨mo, f, 0, true, false, false⟩ := A10.1
  clear A10 C9 s2 p2'
  go_wp2_with fail
  obtain ⟨s1, p1'⟩ := S1.out w10 C10.bel
  refine (cosay_any C10 k1' l _ true s1 (.inl p1') (by omega)).mono ?_
  rw [cl_say2 f l mo HF.out.2 HL.out.2]
  rintro e w11 ⟨rfl, A11⟩
  have C11 : Cn (fun k => k < w1.heap.size ∨ k = b) w1 w11 w1.heap.size rs [[], f ++ l] 1048576 b 0 ⟨[], f ++ l, 0, false, false, true⟩ := A11.1
  clear A11 C10 s1 p1'
  go_wp2_with fail
  obtain ⟨s2, p2'⟩ := S2.out w11 C11.bel
  refine (cofeed_any C11 k2' mo _ s2 (.inl p2')).mono ?_
  rw [cl_feed3]
  rintro e w12 ⟨rfl, A12⟩
  have C12 : Cn (fun k => k < w1.heap.size ∨ k = b) w1 w12 w1.heap.size rs [[], f ++ l] 1048576 b 0 ⟨[], f ++ l, 0, false, false, true⟩ := A12.1
  clear A12 C11 s2 p2'
  have hxl : (((⟨[], f ++ l, 0, false, false, true⟩ : Cs).li.length + (⟨[], f ++ l, 0, false, false, true⟩ : Cs).lo.length : Nat) : Int) = (fn : Int) + ln := by
    obtain ⟨x1, x2⟩ := HF.out
    obtain ⟨x3, x4⟩ := HL.out
    simp only [List.length_append, List.length_nil]
    omega
  have y3 : (fn : Int) + ln ≤ 2000 := by have := HF.out; have := HL.out; omega
  have HQ := coheld_any C12
  rw [hxl] at HQ
  go_wp2_with fail
  refine HQ.mono ?_
  rintro e w13 ⟨rfl, B13⟩
  have C13 := C12.below B13
  clear HQ C12 B13
  obtain ⟨p, HK⟩ := C13.many
  have HD := held_q w1.heap.size 1048576 _ p w13 HK.isM
  rw [show (((tot [[], f ++ l] : Nat)) : Int) = (fn : Int) + ln by rw [tot2]; exact hxl] at HD
  clear HK
  go_wp2_with fail
  refine HD.mono ?_
  rintro e w' ⟨rfl, hw⟩
  rw [hw]
  clear hw HD
  have HQ := coheld_any C13
  rw [hxl] at HQ
  go_wp2_with fail
  refine HQ.mono ?_
  rintro e w14 ⟨rfl, B14⟩
  have C14 := C13.below B14
  clear HQ C13 B14
  go_wp2_with fail
  refine (cowaits_any C14 (Nat.zero_le _) (HMB.out _ C14.bel)).mono ?_
  rw [cl_wait]
  rintro e w15 ⟨rfl, A15⟩
  have C15 : Cn (fun k => k < w1.heap.size ∨ k = b) w1 w15 w1.heap.size rs [[], f ++ l] 1048576 b 0 ⟨[], f ++ l, 0, false, false, true⟩ := A15.1
  clear A15 C14
  have HX := conext_any C15 (Nat.zero_le _) (HMB.out _ C15.bel)
  rw [cl_next3] at HX
  unfold nxV rdNo at HX
  simp only [List.length_nil] at HX
  go_wp2_with fail
  refine HX.mono ?_
  rintro e w16 ⟨fa16, ba16, fc16, bc16, rfl, -, -, A16⟩
  have C16 : Cn (fun k => k < w1.heap.size ∨ k = b) w1 w16 w1.heap.size rs [[], f ++ l] 1048576 b 0 ⟨[], f ++ l, 0, false, false, true⟩ := A16.1
  clear HX A16 C15
  have C17 := C16.below ((Below.refl _ _).alloc (Nat.le_refl _) (.cells #[.string ⟨#[]⟩, .string ⟨#[]⟩, .int .i64 0, .slice fa16 0 fc16, .slice ba16 0 bc16] 43))
  clear C16
  go_wp2_with fail
  generalize w16.alloc (.cells #[.string ⟨#[]⟩, .string ⟨#[]⟩, .int .i64 0, .slice fa16 0 fc16, .slice ba16 0 bc16] 43) = w17 at *
  refine (coclosing_any C17).mono ?_
  rintro e w' ⟨rfl, hw⟩
  rw [hw]
  clear hw
  have hlen : (((f ++ l).length : Nat) : Int) = (fn : Int) + ln := by rw [← hxl]; simp
  have h2k : (f ++ l).length ≤ 2000 := by omega
  have hw18 : windowS ⟨[], f ++ l, 0, false, false, true⟩ ((fn : Int) + ln) = ⟨[], f ++ l, ((f ++ l).length : Nat), false, false, true⟩ := by rw [← hlen]; exact cl_win _ h2k
  have H18 := cowindow_any C17 ((fn : Int) + ln)
  rw [hw18] at H18
  have HLEN : Hid ((((f ++ l).length : Nat) : Int) = (fn : Int) + ln ∧ (f ++ l).length ≤ 2000) := ⟨hlen, h2k⟩
  clear hlen h2k hw18 hxl
  go_wp2_with fail
  refine H18.mono ?_
  rintro e w18 ⟨rfl, A18⟩
  have C18 : Cn (fun k => k < w1.heap.size ∨ k = b) w1 w18 w1.heap.size rs [[], f ++ l] 1048576 b 0 ⟨[], f ++ l, ((f ++ l).length : Nat), false, false, true⟩ := A18.1
  clear A18 C17 H18
  have H19 := cowrite_any C18 1073741824
  rw [cl_n _ HLEN.out.2, cl_write _ HLEN.out.2] at H19
  go_wp2_with fail
  refine H19.mono ?_
  rintro e w19 ⟨g, rfl, hg, hrow, A19⟩
  have C19 : Cn (fun k => k < w1.heap.size ∨ k = b) w1 w19 w1.heap.size rs [[], []] 1048576 b 0 ⟨[], [], 0, false, false, true⟩ := A19.1.weak (fun _ h => .inl h) C18.own
  rw [List.take_length] at hrow
  have hgl := heap_lt hrow
  have SX := src_row hrow rfl (Nat.le_trans HLEN.out.2 (by decide))
  clear A19 C18 H19 hrow
  have U0 : Below w19.heap.size w19 (w19.alloc (.cells #[] 5)) := (Below.refl _ _).alloc (Nat.le_refl _) _
  obtain ⟨s0, p0'⟩ := S0.out _ (C19.bel.trans (U0.mono C19.bel.size))
  obtain ⟨v1, w20, r20, O20, B20⟩ := own_append (Own.empty w19.heap.size w19 (Nat.le_refl _)) s0 z0 (by have := HF.out; simp only [List.length_nil]; omega) U0.size
  have D20 := U0.trans B20
  obtain ⟨s1, p1'⟩ := S1.out _ (C19.bel.trans (D20.mono C19.bel.size))
  obtain ⟨v2, w21, r21, O21, B21⟩ := own_append O20 s1 z1 (by have := HF.out; have := HL.out; simp only [List.nil_append]; omega) D20.size
  have D21 := D20.trans B21
  have R20 : Hid _ := r20
  have R21 : Hid _ := r21
  obtain ⟨kx, sx, -⟩ := O21.src
  have HS := sameBytes_eq (f ++ l) g kx _ v2 w21 (SX.below hgl D21) sx
  have C21 := C19.below D21
  clear r20 r21 U0 s0 p0' B20 s1 p1' O20 O21 B21 SX sx C19 D20 D21 S0 S1 S2
  generalize (f ++ l).length = xl at *
  go_wp2_with (first | (at_builtin; refine wpList_append_run2 rfl _ _ 31 31 rfl _ _ _ w20 rfl rfl R20.out ?_) | (at_builtin; refine wpList_append_run2 rfl _ _ 31 31 rfl _ _ _ w21 rfl rfl R21.out ?_))
  refine HS.mono ?_
  rintro e w22 ⟨rfl, B22⟩
  have C22 := C21.below B22
  clear HS C21 B22 R20 R21
  go_wp2_with fail
  refine (codone_any C22).mono ?_
  rw [show doneS ⟨[], [], 0, false, false, true⟩ = true from rfl]
  rintro e w' ⟨rfl, hw⟩
  rw [hw]
  clear hw
  obtain ⟨p, HK⟩ := C22.many
  have HD := held_q w1.heap.size 1048576 _ p w22 HK.isM
  rw [show (((tot [[], []] : Nat)) : Int) = 0 from rfl] at HD
  clear HK
  go_wp2_with fail
  refine HD.mono ?_
  rintro e w' ⟨rfl, hw⟩
  rw [hw]
  clear hw HD
  go_wp2_with fail
  refine (cowant_any C22).mono ?_
  rw [show wantS ⟨[], [], 0, false, false, true⟩ = 0 from rfl]
  rintro e w23 ⟨rfl, B23⟩
  have C23 := C22.below B23
  have HE : Hid (Below w.heap.size w w23) := HB1.out.trans (C23.bel.mono HB1.out.size)
  clear C22 C23 B23
  go_wp2
  go_ret
  exact ⟨rfl, HE.out⟩
end Go.Proofs.YtemmmdhmkegaaaaGreatDoor

/- ConnFull: the walk. -/
namespace Go.Proofs.YtemmmdhmkegaaaaGreatDoor
open Go.RowKit
set_option linter.unusedVariables false

set_option maxHeartbeats 400000 in
theorem room_qC (b : Nat) (m h p : Int) (w : World) (hm : IsM w b m h p) (h0 : 0 ≤ h) (h1 : h ≤ m) (h2 : m ≤ 1099511627776) :
    Calls Tryz.prog 40 #[.pointer (some ⟨b, 0, none⟩)] w fun e w' => e = .returned (.int .i64 (m - h)) ∧ Below w.heap.size w w' := by
  have hc0 := hm.c0
  have hc := hm.c1
  go_enter Tryz.func40, Tryz.ntmps40
  go_wp2
  go_quiet ((go_at_call 58; exact Calls.quiet_of_same (load_any b 1 h _ (by go_simp))))
  go_wp2
  go_ret
  exact ⟨rfl, (But.drewN w.heap.size _ w).below (Nat.le_refl _)⟩
section
variable {F F' : Nat → Prop} {w0 w w' : World} {mb : Nat} {rs : List Nat} {Ls : List (List UInt8)} {m : Int} {b i : Nat} {s s' : Cs}
/-- Another connection of the meter. -/
theorem Cn.other {c j : Nat} {t : Cs} (h : Cn F w0 w mb rs Ls m c j t) (A : Aft F F' w0 w w' mb rs Ls m b i s') (hne : c ≠ b) (h1 : j ≠ i) (h2 : j ≠ i + 1) (h3 : j + 1 ≠ i) (hc : F' c) : Cn F' w0 w' mb rs (two Ls i s'.li s'.lo) m c j t := by
  obtain ⟨ri, ro, e1, e2, e3⟩ := h.blk
  exact ⟨A.1.many, hc, h.lo0, ⟨ri, ro, e1, e2, (A.2.1 c h.own hne).trans e3⟩, by rw [two_other _ _ h1 h2]; exact h.hi, by rw [two_other _ _ h3 (by omega)]; exact h.ho, h.win⟩
/-- With another one made behind it. -/
theorem Cn.grow {rs' : List Nat} {Ls' : List (List UInt8)} {c j : Nat} {t : Cs} (h : Cn F w0 w mb rs Ls m c j t) (k : Cn F' w0 w' mb (rs ++ rs') (Ls ++ Ls') m b i s) (B : Below w.heap.size w w') (hc : F' c) : Cn F' w0 w' mb (rs ++ rs') (Ls ++ Ls') m c j t := by
  obtain ⟨ri, ro, e1, e2, e3⟩ := h.blk
  have l1 := (List.getElem?_eq_some_iff.1 e1).1
  have l2 := (List.getElem?_eq_some_iff.1 e2).1
  have l3 := h.li1
  have l4 := h.lo1
  exact ⟨k.many, hc, h.lo0, ⟨ri, ro, by rw [List.getElem?_append_left l1]; exact e1, by rw [List.getElem?_append_left l2]; exact e2, (B.block c h.lt).trans e3⟩, by rw [List.getElem?_append_left l3]; exact h.hi, by rw [List.getElem?_append_left l4]; exact h.ho, h.win⟩
end
def zs (n : Nat) : List UInt8 := List.replicate n 0
theorem zs_len (n : Nat) : (zs n).length = n := List.length_replicate
theorem tot4 (a b c d : List UInt8) : tot [a, b, c, d] = a.length + b.length + c.length + d.length := by simp [tot]; omega
def fA (q n : Nat) : List UInt8 := if n ≤ q then zs n else []
theorem fA_le (q n : Nat) : (fA q n).length ≤ q := by unfold fA; split <;> simp [zs_len]; assumption
theorem fu_feed (q n : Nat) : feedS newS (tot [[], [], [], []]) q (zs n) = (⟨fA q n, [], 0, false, false, false⟩, decide ((n : Int) ≤ (q : Int))) := by
  unfold feedS newS fA
  simp only [Bool.false_eq_true, if_false]
  by_cases h : n ≤ q
  · rw [if_pos (by rw [zs_len]; show ((0 : Nat) : Int) + n ≤ q; omega), if_pos h, decide_eq_true (by omega)]
    rfl
  · rw [if_neg (by rw [zs_len]; show ¬ ((0 : Nat) : Int) + n ≤ q; omega), if_neg h, decide_eq_false (by omega)]
theorem fu_no (s : Cs) (T : Nat) (m : Int) (x : List UInt8) (h : ¬ (T : Int) + x.length ≤ m) : noteS s T m x = (s, false) := by unfold noteS; rw [if_neg h]
theorem fu_yes (s : Cs) (T : Nat) (m : Int) (x : List UInt8) (h : (T : Int) + x.length ≤ m) : noteS s T m x = ({ s with lo := s.lo ++ x }, true) := by unfold noteS; rw [if_pos h]
theorem fu_say (T : Nat) (m : Int) (x : List UInt8) (h : ¬ (T : Int) + x.length ≤ m) : sayS newS T m x false = (newS, false) := by
  unfold sayS
  exact fu_no _ _ _ _ h
theorem fu_feedno (T : Nat) (m : Int) (x : List UInt8) (h : ¬ (T : Int) + x.length ≤ m) : feedS newS T m x = (newS, false) := by
  unfold feedS
  rw [if_neg (by decide), if_neg h]
theorem fu_feedyes (s : Cs) (T : Nat) (m : Int) (x : List UInt8) (hs : s.cl = false) (h : (T : Int) + x.length ≤ m) : feedS s T m x = ({ s with li := s.li ++ x }, true) := by
  unfold feedS
  rw [if_neg (by rw [hs]; decide), if_pos h]
theorem fu_win (x : List UInt8) : windowS ⟨[], x, 0, false, false, false⟩ 1048576 = ⟨[], x, 1048576, false, false, false⟩ := rfl
theorem fu_n (x : List UInt8) (h : x.length ≤ 1023) : writeN ⟨[], x, 1048576, false, false, false⟩ 1048576 = x.length := by
  unfold writeN wantS
  simp only
  omega
theorem fu_write (x : List UInt8) (h : x.length ≤ 1023) : writeS ⟨[], x, 1048576, false, false, false⟩ 1048576 = ⟨[], [], 1048576 - x.length, false, false, false⟩ := by
  unfold writeS
  rw [fu_n x h]
  simp only [List.drop_length]
theorem fu_drop (x : List UInt8) : dropS ⟨x, [], 0, false, false, false⟩ = ⟨[], [], 0, false, false, true⟩ := rfl
set_option maxRecDepth 100000 in
set_option maxHeartbeats 4000000 in
theorem full18_walk (z0 z1 : Int) (w : World) (hM : MaxL w) :
    Calls Tryz.prog 8 #[.int .i64 z0, .int .i64 z1] w fun e w' => e = .returned (.bool true) ∧ Below w.heap.size w w' := by
  have HA := alive18_any w hM
  obtain ⟨q, hq, hbq0⟩ := and_mask z0 1023 (by decide)
  have hbq : bits .and .i64 z0 1023 = (q : Int) := hbq0
  obtain ⟨n, hn, hbn0⟩ := and_mask z1 1023 (by decide)
  have hbn : bits .and .i64 z1 1023 = (n : Int) := hbn0
  clear hbq0 hbn0 hM
  have hmk := fun W : World => make_bytes W n (by omega)
  go_enter Tryz.func8, Tryz.ntmps8
  go_wp2_with fail
  refine HA.mono ?_
  rintro e w1 ⟨rfl, B1⟩
  have HB1 : Hid (Below w.heap.size w w1) := B1
  clear HA B1
  go_wp2_with fail
  refine (new_any q _).mono ?_
  rintro e w2 ⟨rfl, hw2⟩
  have M0 : Many (fun k => k < w1.heap.size) w1 w2 w1.heap.size [] [] q 0 := by rw [hw2]; exact isM_start q (by omega) (by omega)
  clear hw2
  go_wp2_with fail
  refine (conew_any M0).mono ?_
  rintro e w3 ⟨a, rs1, rfl, ha, Ca0, hrl1, B3⟩
  have ha1 : w1.heap.size < a := by have := M0.isM.lt; omega
  have Ca : Cn (fun k => k < w1.heap.size ∨ k = a) w1 w3 w1.heap.size rs1 [[], []] q a 0 newS := Ca0
  clear Ca0 M0 B3 ha hbq hbn
  obtain ⟨p, hm⟩ := Ca.many
  go_wp2_with fail
  refine (conew_any hm).mono ?_
  rintro e w4 ⟨b, rs2, rfl, hb, Cb0, hrl2, B4⟩
  rw [hrl1] at Cb0
  have hab : a ≠ b := by have := Ca.lt; omega
  have Ca4 := Ca.grow (rs' := rs2) (Ls' := [[], []]) Cb0 B4 (.inl (.inr rfl))
  generalize rs1 ++ rs2 = rs at *
  have Ca : Cn (fun k => (k < w1.heap.size ∨ k = a) ∨ k = b) w1 w4 w1.heap.size rs [[], [], [], []] q a 0 newS := Ca4
  have Cb : Cn (fun k => (k < w1.heap.size ∨ k = a) ∨ k = b) w1 w4 w1.heap.size rs [[], [], [], []] q b 2 newS := Cb0
  clear Ca4 Cb0 hm B4 hb hrl1 hrl2
  go_wp2_with fail
  refine (cofeed_new Ca ((Below.refl _ _).alloc (Nat.le_refl _) _) w4.heap.size (zs n) _ (lit_src w4 (zs n) n _ (0, 0) (zs_len n) (by unfold maxLen; omega) rfl) (.inr ⟨Nat.le_refl _, by simp⟩)).mono ?_
  rw [fu_feed]
  rintro e w5 ⟨rfl, A5⟩
  have Cb5 : Cn (fun k => (k < w1.heap.size ∨ k = a) ∨ k = b) w1 w5 w1.heap.size rs [fA q n, [], [], []] q b 2 newS := Cb.other A5 hab.symm (by decide) (by decide) (by decide) (.inr rfl)
  have Ca5 : Cn (fun k => (k < w1.heap.size ∨ k = a) ∨ k = b) w1 w5 w1.heap.size rs [fA q n, [], [], []] q a 0 ⟨fA q n, [], 0, false, false, false⟩ := A5.1
  clear A5 Ca Cb hmk
  obtain ⟨x, hx⟩ : ∃ x, x = fA q n := ⟨_, rfl⟩
  have hxl := fA_le q n
  rw [← hx] at Ca5 Cb5 hxl
  obtain ⟨r, hr⟩ : ∃ r, q = x.length + r := ⟨q - x.length, by omega⟩
  have hr1 : r ≤ 1023 := by omega
  obtain ⟨p, hm⟩ := Ca5.many
  have HR := room_qC w1.heap.size q _ p w5 hm.isM (by omega) hm.fit hm.top
  rw [show (q : Int) - ((tot [x, [], [], []] : Nat) : Int) = (r : Int) by rw [tot4]; simp only [List.length_nil]; omega] at HR
  have HQ : Hid (q = x.length + r) := hr
  have HXL : Hid (x.length ≤ q) := hxl
  have hq' := hq
  clear hm hx hxl hr
  go_wp2_with fail
  refine HR.mono ?_
  rintro e w6 ⟨rfl, B6⟩
  have Ca6 := Ca5.below B6
  have Cb6 := Cb5.below B6
  clear HR Ca5 Cb5 B6
  have hmk : ∀ W : World, (Instr.makeSlice 31 (.int .i64 ((r : Int) + 1)) (.int .i64 ((r : Int) + 1))).run Tryz.prog W = .ok (.slice (some ⟨W.heap.size, 0, none⟩) (r + 1) (r + 1)) (W.alloc (.cells (rowB (zs (r + 1))).toArray 5)) := fun W => make_bytes W (r + 1) (by omega)
  have hno : ¬ ((tot [x, [], [], []] : Nat) : Int) + (zs (r + 1)).length ≤ q := by
    have := HQ.out
    rw [tot4, zs_len]
    simp only [List.length_nil]
    omega
  have HNO : Hid _ := hno
  clear hno
  go_wp2_with fail
  refine (conote_new Cb6 ((Below.refl _ _).alloc (Nat.le_refl _) _) w6.heap.size (zs (r + 1)) _ (lit_src w6 (zs (r + 1)) (r + 1) _ (0, 0) (zs_len _) (by unfold maxLen; omega) rfl) (.inr ⟨Nat.le_refl _, by simp⟩)).mono ?_
  rw [fu_no _ _ _ _ HNO.out]
  rintro e w7 ⟨rfl, A7⟩
  have Ca7 : Cn (fun k => (k < w1.heap.size ∨ k = a) ∨ k = b) w1 w7 w1.heap.size rs [x, [], [], []] q a 0 ⟨x, [], 0, false, false, false⟩ := Ca6.other A7 hab (by decide) (by decide) (by decide) (.inl (.inr rfl))
  have Cb7 : Cn (fun k => (k < w1.heap.size ∨ k = a) ∨ k = b) w1 w7 w1.heap.size rs [x, [], [], []] q b 2 newS := A7.1
  clear A7 Ca6 Cb6
  go_wp2_with fail
  refine (cosay_new Cb7 ((Below.refl _ _).alloc (Nat.le_refl _) _) w7.heap.size (zs (r + 1)) _ false (lit_src w7 (zs (r + 1)) (r + 1) _ (0, 0) (zs_len _) (by unfold maxLen; omega) rfl) (.inr ⟨Nat.le_refl _, by simp⟩) (by have := Cb7.lt; omega)).mono ?_
  rw [fu_say _ _ _ HNO.out]
  rintro e w8 ⟨rfl, A8⟩
  have Ca8 : Cn (fun k => (k < w1.heap.size ∨ k = a) ∨ k = b) w1 w8 w1.heap.size rs [x, [], [], []] q a 0 ⟨x, [], 0, false, false, false⟩ := Ca7.other A8 hab (by decide) (by decide) (by decide) (.inl (.inr rfl))
  have Cb8 : Cn (fun k => (k < w1.heap.size ∨ k = a) ∨ k = b) w1 w8 w1.heap.size rs [x, [], [], []] q b 2 newS := A8.1
  clear A8 Ca7 Cb7
  go_wp2_with fail
  refine (cofeed_new Cb8 ((Below.refl _ _).alloc (Nat.le_refl _) _) w8.heap.size (zs (r + 1)) _ (lit_src w8 (zs (r + 1)) (r + 1) _ (0, 0) (zs_len _) (by unfold maxLen; omega) rfl) (.inr ⟨Nat.le_refl _, by simp⟩)).mono ?_
  rw [fu_feedno _ _ _ HNO.out]
  rintro e w9 ⟨rfl, A9⟩
  have Ca9 : Cn (fun k => (k < w1.heap.size ∨ k = a) ∨ k = b) w1 w9 w1.heap.size rs [x, [], [], []] q a 0 ⟨x, [], 0, false, false, false⟩ := Ca8.other A9 hab (by decide) (by decide) (by decide) (.inl (.inr rfl))
  have Cb9 : Cn (fun k => (k < w1.heap.size ∨ k = a) ∨ k = b) w1 w9 w1.heap.size rs [x, [], [], []] q b 2 newS := A9.1
  clear A9 Ca8 Cb8 HNO hmk
  obtain ⟨p, hm⟩ := Ca9.many
  have HR := room_qC w1.heap.size q _ p w9 hm.isM (by omega) hm.fit hm.top
  rw [show (q : Int) - ((tot [x, [], [], []] : Nat) : Int) = (r : Int) by have := HQ.out; rw [tot4]; simp only [List.length_nil]; omega] at HR
  clear hm
  go_wp2_with fail
  refine HR.mono ?_
  rintro e w10 ⟨rfl, B10⟩
  have Ca10 := Ca9.below B10
  have Cb10 := Cb9.below B10
  clear HR Ca9 Cb9 B10
  go_wp2_with fail
  refine (coheld_any Cb10).mono ?_
  rw [show (((newS.li.length + newS.lo.length : Nat)) : Int) = 0 from rfl]
  rintro e w11 ⟨rfl, B11⟩
  have Ca11 := Ca10.below B11
  have Cb11 := Cb10.below B11
  clear Ca10 Cb10 B11
  have hmk : ∀ W : World, (Instr.makeSlice 31 (.int .i64 (r : Int)) (.int .i64 (r : Int))).run Tryz.prog W = .ok (.slice (some ⟨W.heap.size, 0, none⟩) r r) (W.alloc (.cells (rowB (zs r)).toArray 5)) := fun W => make_bytes W r (by omega)
  go_wp2_with fail
  refine (conote_new Cb11 ((Below.refl _ _).alloc (Nat.le_refl _) _) w11.heap.size (zs r) _ (lit_src w11 (zs r) r _ (0, 0) (zs_len _) (by unfold maxLen; omega) rfl) (.inr ⟨Nat.le_refl _, by simp⟩)).mono ?_
  rw [fu_yes _ _ _ _ (by have := HQ.out; rw [tot4, zs_len]; simp only [List.length_nil]; omega)]
  rintro e w12 ⟨rfl, A12⟩
  have Ca12 : Cn (fun k => (k < w1.heap.size ∨ k = a) ∨ k = b) w1 w12 w1.heap.size rs [x, [], [], zs r] q a 0 ⟨x, [], 0, false, false, false⟩ := Ca11.other A12 hab (by decide) (by decide) (by decide) (.inl (.inr rfl))
  have Cb12 : Cn (fun k => (k < w1.heap.size ∨ k = a) ∨ k = b) w1 w12 w1.heap.size rs [x, [], [], zs r] q b 2 ⟨[], zs r, 0, false, false, false⟩ := A12.1
  clear A12 Ca11 Cb11 hmk
  obtain ⟨p, hm⟩ := Ca12.many
  have HR := room_qC w1.heap.size q _ p w12 hm.isM (by omega) hm.fit hm.top
  rw [show (q : Int) - ((tot [x, [], [], zs r] : Nat) : Int) = 0 by have := HQ.out; rw [tot4, zs_len]; simp only [List.length_nil]; omega] at HR
  clear hm
  go_wp2_with fail
  refine HR.mono ?_
  rintro e w13 ⟨rfl, B13⟩
  have Ca13 := Ca12.below B13
  have Cb13 := Cb12.below B13
  clear HR Ca12 Cb12 B13
  go_wp2_with fail
  refine (conote_new Ca13 ((Below.refl _ _).alloc (Nat.le_refl _) _) w13.heap.size [1] _ (lit_src w13 [1] 1 _ _ rfl (by decide) rfl) (.inr ⟨Nat.le_refl _, by simp⟩)).mono ?_
  rw [fu_no _ _ _ _ (by have := HQ.out; rw [tot4, zs_len]; simp only [List.length_nil, List.length_singleton]; omega)]
  rintro e w14 ⟨rfl, A14⟩
  have Cb14 : Cn (fun k => (k < w1.heap.size ∨ k = a) ∨ k = b) w1 w14 w1.heap.size rs [x, [], [], zs r] q b 2 ⟨[], zs r, 0, false, false, false⟩ := Cb13.other A14 hab.symm (by decide) (by decide) (by decide) (.inr rfl)
  have Ca14 : Cn (fun k => (k < w1.heap.size ∨ k = a) ∨ k = b) w1 w14 w1.heap.size rs [x, [], [], zs r] q a 0 ⟨x, [], 0, false, false, false⟩ := A14.1
  clear A14 Ca13 Cb13
  go_wp2_with fail
  refine (codrop_any Ca14).mono ?_
  rw [fu_drop]
  rintro e w15 ⟨rfl, A15⟩
  have Cb15 : Cn (fun k => (k < w1.heap.size ∨ k = a) ∨ k = b) w1 w15 w1.heap.size rs [[], [], [], zs r] q b 2 ⟨[], zs r, 0, false, false, false⟩ := Cb14.other A15 hab.symm (by decide) (by decide) (by decide) (.inr rfl)
  have Ca15 : Cn (fun k => (k < w1.heap.size ∨ k = a) ∨ k = b) w1 w15 w1.heap.size rs [[], [], [], zs r] q a 0 ⟨[], [], 0, false, false, true⟩ := A15.1
  clear A15 Ca14 Cb14
  go_wp2_with fail
  refine (cowindow_any Cb15 1048576).mono ?_
  rw [fu_win]
  rintro e w16 ⟨rfl, A16⟩
  have Ca16 : Cn (fun k => (k < w1.heap.size ∨ k = a) ∨ k = b) w1 w16 w1.heap.size rs [[], [], [], zs r] q a 0 ⟨[], [], 0, false, false, true⟩ := Ca15.other A16 hab (by decide) (by decide) (by decide) (.inl (.inr rfl))
  have Cb16 : Cn (fun k => (k < w1.heap.size ∨ k = a) ∨ k = b) w1 w16 w1.heap.size rs [[], [], [], zs r] q b 2 ⟨[], zs r, 1048576, false, false, false⟩ := A16.1
  clear A16 Ca15 Cb15
  go_wp2_with fail
  have hzr : (zs r).length ≤ 1023 := by rw [zs_len]; exact hr1
  have HW := cowrite_any Cb16 1048576
  rw [fu_n _ hzr, fu_write _ hzr] at HW
  refine HW.mono ?_
  rintro e w17 ⟨g, rfl, hg, hrow, A17⟩
  have Ca17 : Cn (fun k => k < w1.heap.size ∨ k = a ∨ k = b) w1 w17 w1.heap.size rs [[], [], [], []] q a 0 ⟨[], [], 0, false, false, true⟩ := (Ca16.other A17 hab (by decide) (by decide) (by decide) (.inl (.inl (.inr rfl)))).weak (fun j hj => .inl (by rcases hj with h | h | h; exact .inl (.inl h); exact .inl (.inr h); exact .inr h)) (.inr (.inl rfl))
  have Cb17 : Cn (fun k => k < w1.heap.size ∨ k = a ∨ k = b) w1 w17 w1.heap.size rs [[], [], [], []] q b 2 ⟨[], [], 1048576 - (zs r).length, false, false, false⟩ := A17.1.weak (fun j hj => .inl (by rcases hj with h | h | h; exact .inl (.inl h); exact .inl (.inr h); exact .inr h)) (.inr (.inr rfl))
  clear A17 Ca16 Cb16 HW hrow hg
  obtain ⟨p, hm⟩ := Ca17.many
  have HD := held_q w1.heap.size q _ p w17 hm.isM
  rw [show (((tot [[], [], [], []] : Nat)) : Int) = 0 from rfl] at HD
  clear hm
  go_wp2_with fail
  refine HD.mono ?_
  rintro e w' ⟨rfl, hw⟩
  rw [hw]
  clear hw HD
  have HH := coheld_any Cb17
  rw [show (((⟨[], [], 1048576 - (zs r).length, false, false, false⟩ : Cs).li.length + (⟨[], [], 1048576 - (zs r).length, false, false, false⟩ : Cs).lo.length : Nat) : Int) = 0 from rfl] at HH
  go_wp2_with fail
  refine HH.mono ?_
  rintro e w18 ⟨rfl, B18⟩
  have Ca18 := Ca17.below B18
  have Cb18 := Cb17.below B18
  clear HH Ca17 Cb17 B18
  go_wp2_with fail
  refine (coclosing_any Ca18).mono ?_
  rintro e w' ⟨rfl, hw⟩
  rw [hw]
  clear hw
  have hmk := fun W : World => make_bytes W q (by omega)
  go_wp2_with fail
  refine (cofeed_new Cb18 ((Below.refl _ _).alloc (Nat.le_refl _) _) w18.heap.size (zs q) _ (lit_src w18 (zs q) q _ (0, 0) (zs_len _) (by unfold maxLen; omega) rfl) (.inr ⟨Nat.le_refl _, by simp⟩)).mono ?_
  rw [fu_feedyes _ _ _ _ rfl (by rw [tot4, zs_len]; simp only [List.length_nil]; omega)]
  rintro e w19 ⟨rfl, A19⟩
  have HE : Hid (Below w.heap.size w w19) := HB1.out.trans (A19.1.bel.mono HB1.out.size)
  clear A19 Ca18 Cb18 hmk
  go_wp2
  go_ret
  exact ⟨rfl, HE.out⟩
end Go.Proofs.YtemmmdhmkegaaaaGreatDoor

/- Whatever the two numbers, ConnFull answers true: what the meter has no room for is not taken by Feed, Say and Note, what was there stays, and another connection has the room that is given back; no condition. -/
namespace Go.Proofs.YtemmmdhmkegaaaaGreatDoor.connFull
open Go.ChangeShapes Go.WideShapes Go.ChangeAt Go.RowKit
open Go.ChangeMaps (open_string shut_string)
set_option linter.unusedVariables false

theorem own : ownKnob Tryz.prog.godebug = none := by kernel_rfl
theorem maxL_of {W : World} (hsh : W.ShapedOpen Tryz.prog) : MaxL W :=
  cell_of_shapedOpen_int (P := Tryz.prog) (g := 0) (t := 3) (zero := #[.int .i64 0]) hsh (of_decide_eq_true (by kernel_rfl)) (by kernel_rfl) rfl (by kernel_rfl) (by kernel_rfl) Tryz.underlying3
noncomputable def laidWorld (os : Os) : World := World.laidAll Tryz.prog os Rows.connFullRow.laid
theorem laid_met (os : Os) : laidMetH Tryz.prog Rows.connFullRow.laid ((laidWorld os).forCall (fun _ _ => 0) ⟨#[], #[.int .i64 0, .int .i64 0], []⟩).memory := by
  rw [MakeChecks.laidMetH_plain _ _ _ (by kernel_rfl)]
  exact laidMet_laidAll _ (by kernel_rfl) (by kernel_rfl)
set_option maxRecDepth 100000 in
theorem lifted (os : Os) (started : os.Started) (H : Type) (enc : TypeId × Value → H) (F : Stop.Interp) :
    ReturnsInHanded {} Tryz.checked os 8 .any ((OpenSpec.ofChange Rows.connFullSpec).preRow enc Tryz.prog Tryz.f8 Rows.connFullRow.domain false Rows.connFullRow.laid) (((OpenSpec.ofChange Rows.connFullSpec).at F).post enc Tryz.prog Tryz.f8 false true false false) := by
  obtain ⟨places, hx⟩ := (⟨[], by kernel_rfl⟩ : ∃ places, DataW.whole enc Tryz.prog ((laidWorld os).forCall (fun _ _ => 0) ⟨#[], #[.int .i64 0, .int .i64 0], []⟩).memory Tryz.f8.params.toList Rows.connFullSpec.vars false (#[.int .i64 0, .int .i64 0] : Array Value).toList 8 = some ([.lit (.int .i64 0), .lit (.int .i64 0)], [], places))
  refine returnsInHanded_of_row (C := Tryz.checked) (s := OpenSpec.ofChange Rows.connFullSpec) own started (by kernel_rfl) Tryz.func8
    (witness_row_atRef (enc := enc) (C := Tryz.checked) false (laidWorld os) #[.int .i64 0, .int .i64 0] rfl (by kernel_rfl) (by kernel_rfl) (by kernel_rfl)
      (OpenSpec.preRow_of_cond 8 hx (by kernel_rfl) (fun k hk => by cases hk) (by kernel_rfl) (laid_met os))) ?_
  intro W base args ds gs before hval0 hW _ hcond hsz hlaid hsh _
  have hM := maxL_of hsh
  clear hsh
  have hval : ∀ (j : Nat) t v, Tryz.f8.params[j]? = some t → args[j]? = some v → Value.okWide Tryz.prog W .any base t v := hval0
  have hW' := hW
  obtain ⟨p, q, hA0, hV, rfl, hfz, hnd⟩ := hW
  have hA : DataW.TrodAll enc Tryz.prog W 0 (fun _ => true) true Tryz.f8.params.toList args.toList ds p := hA0
  rw [Tryz.params8] at hA hval
  obtain ⟨v0, vs0, d0, ds0, p0, q0, hargs, rfl, rfl, h0, r0⟩ := trodAll_cons hA
  obtain ⟨v1, vs1, d1, ds1, p1, q1, rfl, rfl, rfl, h1, r1⟩ := trodAll_cons r0
  obtain ⟨rfl, rfl, rfl⟩ := trodAll_nil r1
  obtain rfl : args = #[v0, v1] := by cases args; simp_all
  obtain ⟨rfl, rfl⟩ := trodVars_none hV
  obtain ⟨a0, rfl, rfl, rfl, w0⟩ := open_int Tryz.underlying3 (hval 0 3 v0 rfl rfl) h0
  obtain ⟨a1, rfl, rfl, rfl, w1⟩ := open_int Tryz.underlying3 (hval 1 3 v1 rfl rfl) h1
  clear hA0 hval0
  refine (full18_walk a0 a1 W hM).mono fun e W' ⟨he, bel⟩ => ?_
  subst he
  exact ⟨_, rfl, _, _, _, [], _, [], hW', trodAll_mk1 (shut_bool Tryz.underlying4 _), (trodAll_cons_mk (shut_int Tryz.underlying3 w0) (trodAll_cons_mk (shut_int Tryz.underlying3 w1) trodAll_mk0)), rfl, bel.frame _, fun h => by cases h⟩

theorem over : Rows.ConnFullSaid :=
  OpenClaim.holds_of_cond 8 Tryz.f8 rfl rfl rfl rfl rfl rfl rfl ⟨rfl, rfl, rfl, rfl, rfl⟩ rfl rfl rfl rfl rfl (by kernel_rfl) Tryz.func8 (by kernel_rfl)
    (of_decide_eq_true (by kernel_rfl)) (by unfold Func.isWrapper; first | (rw [if_pos (by decide +kernel)]; kernel_rfl) | (rw [if_neg (by decide +kernel)]; exact ⟨rfl, rfl⟩))
    (fun os started H enc _ F => by rw [OpenClaim.pre_eq_preRow]; exact lifted os started H enc F)

end Go.Proofs.YtemmmdhmkegaaaaGreatDoor.connFull
namespace Go.Proofs.YtemmmdhmkegaaaaGreatDoor
/-- The statement: the tied card. -/
theorem connFull_holds : Rows.ConnFullCardSaid :=
  Claim7.holds_tied_plain_at .later [] _ _ _ _
    connFull.over (fun _ h => by cases h) (by kernel_rfl) (fun _ h => by cases h) connFull_row_tie rfl ⟨rfl, rfl⟩ (by kernel_rfl) rfl
    (fun f fn hf hfn => by
      obtain rfl : f = 8 := Option.some.inj ((show Tryz.prog.funcNamed "tollbar/tollbarlaw18.ConnFull" = some 8 by kernel_rfl).symm.trans hf) |>.symm
      obtain rfl : fn = Tryz.f8 := (Option.some.inj (Tryz.func8.symm.trans hfn)).symm
      exact ⟨by kernel_rfl, fun j t ht => by
        rw [Tryz.params8] at ht
        have hm : t ∈ [3, 3] := by simpa using Array.mem_of_getElem? ht
        have hall : ([3, 3].all fun u => !Tryz.prog.wantsStandIn u) = true := by kernel_rfl
        exact (show Tryz.prog.wantsStandIn t = false by simpa using List.all_eq_true.1 hall t hm)⟩)
    (by kernel_rfl)
#print axioms connFull_holds
end Go.Proofs.YtemmmdhmkegaaaaGreatDoor
