/- Texts that the proof leans on, one behind the other: CnI RqD RqH RqG FsS HtS NmO -/
import Derived.Test.YtemmmdhmkegaaaaGreatDoorCb5
import Derived.Test.YtemmmdhmkegaaaaGreatDoorCb2
import Derived.Test.YtemmmdhmkegaaaaGreatDoorCb4
import Derived.Test.YtemmmdhmkegaaaaGreatDoorCb7
import Derived.Test.YtemmmdhmkegaaaaGreatDoorCb6
import Derived.Test.YtemmmdhmkegaaaaGreatDoorCb3
import Derived.Deep.QuietTactic
import Derived.ProofKit
import Derived.OpenShut
import Derived.Deep.Slices
/- ConnCloses: the walk. -/
namespace Go.Proofs.YtemmmdhmkegaaaaGreatDoor
open Go.RowKit
set_option linter.unusedVariables false

theorem MaxL.pos {w : World} (h : MaxL w) : 0 < w.heap.size := by
  obtain ⟨m, h⟩ := h
  rcases Nat.eq_zero_or_pos w.heap.size with e | e
  · have : w.heap = #[] := Array.eq_empty_of_size_eq_zero e
    simp [World.cell?, this] at h
  · exact e
/-- Bytes that came in lie below. -/
theorem Src.low {w : World} {k : Nat} {v : Value} {x : List UInt8} (h : Src w k v x) (hk : 0 < x.length → k < w.heap.size) (hM : MaxL w) : ∃ k', k' < w.heap.size ∧ Src w k' v x := by
  obtain ⟨k', c, s⟩ := h.any (g := 0) hk
  refine ⟨k', ?_, s⟩
  rcases c with c | c
  · exact c
  · rw [c]; exact hM.pos
def b58 : List UInt8 := [71, 69, 84, 32, 47, 32, 72, 84, 84, 80, 47, 49, 46, 49, 13, 10, 72, 111, 115, 116, 58, 32, 97, 13, 10, 13, 10, 71, 69, 84, 32, 47, 110, 101, 120, 116, 32, 72, 84, 84, 80, 47, 49, 46, 49, 13, 10, 72, 111, 115, 116, 58, 32, 97, 13, 10, 13, 10]
def b31 : List UInt8 := [71, 69, 84, 32, 47, 110, 101, 120, 116, 32, 72, 84, 84, 80, 47, 49, 46, 49, 13, 10, 72, 111, 115, 116, 58, 32, 97, 13, 10, 13, 10]
def r31 : Rd := ⟨⟨#[71, 69, 84]⟩, ⟨#[47, 110, 101, 120, 116]⟩, 1, [(⟨#[72, 111, 115, 116]⟩, ⟨#[97]⟩)], [], 31, 0⟩
theorem req58 : reqQ b58 = r29 := by kernel_rfl
theorem req31 : reqQ b31 = r31 := by kernel_rfl
theorem cl_feed : feedS newS (tot [[], []]) 1048576 b58 = (⟨b58, [], 0, false, false, false⟩, true) := by kernel_rfl
theorem cl_next1 : nextS ⟨b58, [], 0, false, false, false⟩ = (⟨b31, [], 0, true, false, false⟩, r29, 0) := by unfold nextS; rw [show reqQ b58 = r29 from req58]; kernel_rfl
theorem cl_next2 (f : List UInt8) : nextS ⟨b31, f, 0, false, false, false⟩ = (⟨[], f, 0, true, false, false⟩, r31, 0) := by
  unfold nextS
  simp only [Bool.false_eq_true, if_false]
  rw [show reqQ b31 = r31 from req31]
  rfl
theorem tot2 (a c : List UInt8) : tot [a, c] = a.length + c.length := by simp [tot]
theorem cl_say1 (f : List UInt8) (h : f.length ≤ 1000) : sayS ⟨b31, [], 0, true, false, false⟩ (tot [b31, []]) 1048576 f false = (⟨b31, f, 0, false, false, false⟩, true) := by
  unfold sayS noteS say2
  rw [tot2]
  simp only [Bool.false_eq_true, if_false, List.length_nil, List.nil_append]
  rw [if_pos (by have : b31.length = 31 := rfl; omega)]
theorem cl_feed2 (f mo : List UInt8) (h : f.length ≤ 1000) (k : mo.length ≤ 1000) : feedS ⟨[], f, 0, true, false, false⟩ (tot [[], f]) 1048576 mo = (⟨mo, f, 0, true, false, false⟩, true) := by
  unfold feedS
  rw [tot2, if_neg (by simp), if_pos (by simp; omega)]
  rfl
theorem cl_say2 (f l mo : List UInt8) (h : f.length ≤ 1000) (k : l.length ≤ 1000) : sayS ⟨mo, f, 0, true, false, false⟩ (tot [mo, f]) 1048576 l true = (⟨[], f ++ l, 0, false, false, true⟩, true) := by
  unfold sayS noteS say2 shutS
  rw [tot2]
  simp only [Bool.false_eq_true, if_false, if_true, List.length_nil]
  rw [if_pos (by omega)]
theorem cl_feed3 (x mo : List UInt8) : feedS ⟨[], x, 0, false, false, true⟩ (tot [[], x]) 1048576 mo = (⟨[], x, 0, false, false, true⟩, true) := rfl
theorem cl_wait (x : List UInt8) : waitS ⟨[], x, 0, false, false, true⟩ = (⟨[], x, 0, false, false, true⟩, false) := rfl
theorem cl_next3 (x : List UInt8) : nextS ⟨[], x, 0, false, false, true⟩ = (⟨[], x, 0, false, false, true⟩, rdNo 0, -1) := rfl
theorem cl_win (x : List UInt8) (h : x.length ≤ 2000) : windowS ⟨[], x, 0, false, false, true⟩ x.length = ⟨[], x, x.length, false, false, true⟩ := by
  unfold windowS
  simp only [Cs.mk.injEq, true_and, and_true]
  omega
theorem cl_n (x : List UInt8) (h : x.length ≤ 2000) : writeN ⟨[], x, x.length, false, false, true⟩ 1073741824 = x.length := by
  unfold writeN wantS
  simp only
  omega
theorem cl_write (x : List UInt8) (h : x.length ≤ 2000) : writeS ⟨[], x, x.length, false, false, true⟩ 1073741824 = ⟨[], [], 0, false, false, true⟩ := by
  unfold writeS
  rw [cl_n x h]
  simp only [List.drop_length, Int.sub_self]
set_option maxRecDepth 100000 in
set_option maxHeartbeats 4000000 in
theorem closes18_walk (k0 n0 c0 : Nat) (a0 : Option Addr) (f : List UInt8) (k1 n1 c1 : Nat) (a1 : Option Addr) (l : List UInt8) (k2 n2 c2 : Nat) (a2 : Option Addr) (mo : List UInt8) (w : World)
    (h0 : Src w k0 (.slice a0 n0 c0) f) (q0 : 0 < f.length → k0 < w.heap.size) (z0 : a0 = none → c0 = 0) (h1 : Src w k1 (.slice a1 n1 c1) l) (q1 : 0 < l.length → k1 < w.heap.size) (z1 : a1 = none → c1 = 0)
    (h2 : Src w k2 (.slice a2 n2 c2) mo) (q2 : 0 < mo.length → k2 < w.heap.size) (hM : MaxL w) :
    Calls Tryz.prog 7 #[.slice a0 n0 c0, .slice a1 n1 c1, .slice a2 n2 c2] w fun e w' => e = .returned (.bool true) ∧ Below w.heap.size w w' := by
  obtain ⟨k0', p0, s0⟩ := h0.low q0 hM
  obtain ⟨k1', p1, s1⟩ := h1.low q1 hM
  obtain ⟨k2', p2, s2⟩ := h2.low q2 hM
  obtain ⟨e0, _, _⟩ := h0.len
  obtain ⟨e1, _, _⟩ := h1.len
  obtain ⟨e2, _, _⟩ := h2.len
  subst e0 e1 e2
  have S0 : Hid (Src w k0' (.slice a0 f.length c0) f) := s0
  have S1 : Hid (Src w k1' (.slice a1 l.length c1) l) := s1
  have S2 : Hid (Src w k2' (.slice a2 mo.length c2) mo) := s2
  have HM : Hid (MaxL w) := hM
  have HA := alive18_any w hM
  clear hM h0 h1 h2 q0 q1 q2 s0 s1 s2
  by_cases g0 : 1000 < f.length
  · clear S0 S1 S2
    generalize f.length = n at *
    go_enter Tryz.func7, Tryz.ntmps7
    go_wp2_with fail
    refine HA.mono ?_
    rintro e w1 ⟨rfl, B1⟩
    go_wp2
    go_ret
    exact ⟨rfl, B1⟩
  by_cases g1 : 1000 < l.length
  · clear S0 S1 S2
    generalize f.length = n at *
    generalize l.length = n1 at *
    go_enter Tryz.func7, Tryz.ntmps7
    go_wp2_with fail
    refine HA.mono ?_
    rintro e w1 ⟨rfl, B1⟩
    go_wp2
    go_ret
    exact ⟨rfl, B1⟩
  by_cases g2 : 1000 < mo.length
  · clear S0 S1 S2
    generalize f.length = n at *
    generalize l.length = n1 at *
    generalize mo.length = n2 at *
    go_enter Tryz.func7, Tryz.ntmps7
    go_wp2_with fail
    refine HA.mono ?_
    rintro e w1 ⟨rfl, B1⟩
    go_wp2
    go_ret
    exact ⟨rfl, B1⟩
  have hf : f.length ≤ 1000 := by omega
  have hl : l.length ≤ 1000 := by omega
  have hm : mo.length ≤ 1000 := by omega
  go_enter Tryz.func7, Tryz.ntmps7
  go_wp2_with fail
  refine HA.mono ?_
  rintro e w1 ⟨rfl, B1⟩
  clear HA
  have HMB : Hid (∀ W, Below w1.heap.size w1 W → MaxL W) := fun W b => (HM.out.below B1).below b
  have S0 : Hid (∀ W, Below w1.heap.size w1 W → Src W k0' (.slice a0 f.length c0) f ∧ k0' < w1.heap.size) := fun W b => ⟨(S0.out.below p0 B1).below (Nat.lt_of_lt_of_le p0 B1.size) b, Nat.lt_of_lt_of_le p0 B1.size⟩
  have S1 : Hid (∀ W, Below w1.heap.size w1 W → Src W k1' (.slice a1 l.length c1) l ∧ k1' < w1.heap.size) := fun W b => ⟨(S1.out.below p1 B1).below (Nat.lt_of_lt_of_le p1 B1.size) b, Nat.lt_of_lt_of_le p1 B1.size⟩
  have S2 : Hid (∀ W, Below w1.heap.size w1 W → Src W k2' (.slice a2 mo.length c2) mo ∧ k2' < w1.heap.size) := fun W b => ⟨(S2.out.below p2 B1).below (Nat.lt_of_lt_of_le p2 B1.size) b, Nat.lt_of_lt_of_le p2 B1.size⟩
  have HB1 : Hid (Below w.heap.size w w1) := B1
  clear B1 HM
  obtain ⟨fn, hfn⟩ : ∃ n, n = f.length := ⟨_, rfl⟩
  obtain ⟨ln, hln⟩ : ∃ n, n = l.length := ⟨_, rfl⟩
  obtain ⟨mn, hmn⟩ : ∃ n, n = mo.length := ⟨_, rfl⟩
  rw [← hfn] at S0 ⊢
  rw [← hln] at S1 ⊢
  rw [← hmn] at S2 ⊢
  have y0 : ¬ (1000 : Int) < fn := by omega
  have y1 : ¬ (1000 : Int) < ln := by omega
  have y2 : ¬ (1000 : Int) < mn := by omega
  have HF : Hid (fn = f.length ∧ f.length ≤ 1000) := ⟨hfn, hf⟩
  have HL : Hid (ln = l.length ∧ l.length ≤ 1000) := ⟨hln, hl⟩
  have HN : Hid (mn = mo.length ∧ mo.length ≤ 1000) := ⟨hmn, hm⟩
  clear g0 g1 g2 hf hl hm hfn hln hmn
  go_wp2_with fail
  refine (new_any 1048576 _).mono ?_
  rintro e w2 ⟨rfl, hw2⟩
  have M0 : Many (fun k => k < w1.heap.size) w1 w2 w1.heap.size [] [] 1048576 0 := by rw [hw2]; exact isM_start 1048576 (by decide) (by decide)
  clear hw2 y0 y1 y2
  go_wp2_with fail
  refine (conew_any M0).mono ?_
  rintro e w3 ⟨b, rs, rfl, hb, C0, hrl, B0⟩
  have hb1 : w1.heap.size < b := by have := M0.isM.lt; omega
  have C3 : Cn (fun k => k < w1.heap.size ∨ k = b) w1 w3 w1.heap.size rs [[], []] 1048576 b 0 newS := C0
  clear C0 M0 B0 hb
  have hcs := fun C : Array Value => conv_same w3 C 58 58
  go_wp2_with fail
  refine (cofeed_new C3 ((Below.refl _ _).alloc (Nat.le_refl _) _) w3.heap.size b58 _ (lit_src w3 b58 58 _ _ rfl (by decide) rfl) (.inr ⟨Nat.le_refl _, by simp⟩)).mono ?_
  rw [cl_feed]
  rintro e w4 ⟨rfl, A4⟩
  have C4 : Cn (fun k => k < w1.heap.size ∨ k = b) w1 w4 w1.heap.size rs [b58, []] 1048576 b 0 ⟨b58, [], 0, false, false, false⟩ := A4.1
  clear A4 C3 hcs
  have HX := conext_any C4 (by decide) (HMB.out _ C4.bel)
  rw [cl_next1] at HX
  unfold nxV r29 at HX
  simp only at HX
  go_wp2_with fail
  refine HX.mono ?_
  rintro e w5 ⟨fa, ba, fc, bc, rfl, -, -, A5⟩
  have C5 : Cn (fun k => k < w1.heap.size ∨ k = b) w1 w5 w1.heap.size rs [b31, []] 1048576 b 0 ⟨b31, [], 0, true, false, false⟩ := A5.1
  clear HX A5 C4
  have C6 := C5.below ((Below.refl _ _).alloc (Nat.le_refl _) (.cells #[.string ⟨#[71, 69, 84]⟩, .string ⟨#[47]⟩, .int .i64 1, .slice fa 1 fc, .slice ba 0 bc] 43))
  clear C5
  go_wp2_with fail
  generalize w5.alloc (.cells #[.string ⟨#[71, 69, 84]⟩, .string ⟨#[47]⟩, .int .i64 1, .slice fa 1 fc, .slice ba 0 bc] 43) = w6 at *
  obtain ⟨s0, p0'⟩ := S0.out w6 C6.bel
  refine (cosay_any C6 k0' f _ false s0 (.inl p0') (by omega)).mono ?_
  rw [cl_say1 f HF.out.2]
  rintro e w7 ⟨rfl, A7⟩
  have C7 : Cn (fun k => k < w1.heap.size ∨ k = b) w1 w7 w1.heap.size rs [b31, f] 1048576 b 0 ⟨b31, f, 0, false, false, false⟩ := A7.1
  clear A7 C6 s0 p0'
  have HX := conext_any C7 (show b31.length ≤ 6144 by decide) (HMB.out _ C7.bel)
  rw [cl_next2] at HX
  unfold nxV r31 at HX
  simp only at HX
  go_wp2_with fail
  refine HX.mono ?_
  rintro e w8 ⟨fa8, ba8, fc8, bc8, rfl, -, -, A8⟩
  have C8 : Cn (fun k => k < w1.heap.size ∨ k = b) w1 w8 w1.heap.size rs [[], f] 1048576 b 0 ⟨[], f, 0, true, false, false⟩ := A8.1
  clear HX A8 C7
  have C9 := C8.below ((Below.refl _ _).alloc (Nat.le_refl _) (.cells #[.string ⟨#[71, 69, 84]⟩, .string ⟨#[47, 110, 101, 120, 116]⟩, .int .i64 1, .slice fa8 1 fc8, .slice ba8 0 bc8] 43))
  clear C8
  go_wp2_with fail
  generalize w8.alloc (.cells #[.string ⟨#[71, 69, 84]⟩, .string ⟨#[47, 110, 101, 120, 116]⟩, .int .i64 1, .slice fa8 1 fc8, .slice ba8 0 bc8] 43) = w9 at *
  obtain ⟨s2, p2'⟩ := S2.out w9 C9.bel
  refine (cofeed_any C9 k2' mo _ s2 (.inl p2')).mono ?_
  rw [cl_feed2 f mo HF.out.2 HN.out.2]
  rintro e w10 ⟨rfl, A10⟩
  have C10 : Cn (fun k => k < w1.heap.size ∨ k = b) w1 w10 w1.heap.size rs [mo, f] 1048576 b 0 ⟨mo, f, 0, true, false, false⟩ := A10.1
  clear A10 C9 s2 p2'
  go_wp2_with fail
  obtain ⟨s1, p1'⟩ := S1.out w10 C10.bel
  refine (cosay_any C10 k1' l _ true s1 (.inl p1') (by omega)).mono ?_
  rw [cl_say2 f l mo HF.out.2 HL.out.2]
  rintro e w11 ⟨rfl, A11⟩
  have C11 : Cn (fun k => k < w1.heap.size ∨ k = b) w1 w11 w1.heap.size rs [[], f ++ l] 1048576 b 0 ⟨[], f ++ l, 0, false, false, true⟩ := A11.1
  clear A11 C10 s1 p1'
  go_wp2_with fail
  obtain ⟨s2, p2'⟩ := S2.out w11 C11.bel
  refine (cofeed_any C11 k2' mo _ s2 (.inl p2')).mono ?_
  rw [cl_feed3]
  rintro e w12 ⟨rfl, A12⟩
  have C12 : Cn (fun k => k < w1.heap.size ∨ k = b) w1 w12 w1.heap.size rs [[], f ++ l] 1048576 b 0 ⟨[], f ++ l, 0, false, false, true⟩ := A12.1
  clear A12 C11 s2 p2'
  have hxl : (((⟨[], f ++ l, 0, false, false, true⟩ : Cs).li.length + (⟨[], f ++ l, 0, false, false, true⟩ : Cs).lo.length : Nat) : Int) = (fn : Int) + ln := by
    obtain ⟨x1, x2⟩ := HF.out
    obtain ⟨x3, x4⟩ := HL.out
    simp only [List.length_append, List.length_nil]
    omega
  have y3 : (fn : Int) + ln ≤ 2000 := by have := HF.out; have := HL.out; omega
  have HQ := coheld_any C12
  rw [hxl] at HQ
  go_wp2_with fail
  refine HQ.mono ?_
  rintro e w13 ⟨rfl, B13⟩
  have C13 := C12.below B13
  clear HQ C12 B13
  obtain ⟨p, HK⟩ := C13.many
  have HD := held_q w1.heap.size 1048576 _ p w13 HK.isM
  rw [show (((tot [[], f ++ l] : Nat)) : Int) = (fn : Int) + ln by rw [tot2]; exact hxl] at HD
  clear HK
  go_wp2_with fail
  refine HD.mono ?_
  rintro e w' ⟨rfl, hw⟩
  rw [hw]
  clear hw HD
  have HQ := coheld_any C13
  rw [hxl] at HQ
  go_wp2_with fail
  refine HQ.mono ?_
  rintro e w14 ⟨rfl, B14⟩
  have C14 := C13.below B14
  clear HQ C13 B14
  go_wp2_with fail
  refine (cowaits_any C14 (Nat.zero_le _) (HMB.out _ C14.bel)).mono ?_
  rw [cl_wait]
  rintro e w15 ⟨rfl, A15⟩
  have C15 : Cn (fun k => k < w1.heap.size ∨ k = b) w1 w15 w1.heap.size rs [[], f ++ l] 1048576 b 0 ⟨[], f ++ l, 0, false, false, true⟩ := A15.1
  clear A15 C14
  have HX := conext_any C15 (Nat.zero_le _) (HMB.out _ C15.bel)
  rw [cl_next3] at HX
  unfold nxV rdNo at HX
  simp only [List.length_nil] at HX
  go_wp2_with fail
  refine HX.mono ?_
  rintro e w16 ⟨fa16, ba16, fc16, bc16, rfl, -, -, A16⟩
  have C16 : Cn (fun k => k < w1.heap.size ∨ k = b) w1 w16 w1.heap.size rs [[], f ++ l] 1048576 b 0 ⟨[], f ++ l, 0, false, false, true⟩ := A16.1
  clear HX A16 C15
  have C17 := C16.below ((Below.refl _ _).alloc (Nat.le_refl _) (.cells #[.string ⟨#[]⟩, .string ⟨#[]⟩, .int .i64 0, .slice fa16 0 fc16, .slice ba16 0 bc16] 43))
  clear C16
  go_wp2_with fail
  generalize w16.alloc (.cells #[.string ⟨#[]⟩, .string ⟨#[]⟩, .int .i64 0, .slice fa16 0 fc16, .slice ba16 0 bc16] 43) = w17 at *
  refine (coclosing_any C17).mono ?_
  rintro e w' ⟨rfl, hw⟩
  rw [hw]
  clear hw
  have hlen : (((f ++ l).length : Nat) : Int) = (fn : Int) + ln := by rw [← hxl]; simp
  have h2k : (f ++ l).length ≤ 2000 := by omega
  have hw18 : windowS ⟨[], f ++ l, 0, false, false, true⟩ ((fn : Int) + ln) = ⟨[], f ++ l, ((f ++ l).length : Nat), false, false, true⟩ := by rw [← hlen]; exact cl_win _ h2k
  have H18 := cowindow_any C17 ((fn : Int) + ln)
  rw [hw18] at H18
  have HLEN : Hid ((((f ++ l).length : Nat) : Int) = (fn : Int) + ln ∧ (f ++ l).length ≤ 2000) := ⟨hlen, h2k⟩
  clear hlen h2k hw18 hxl
  go_wp2_with fail
  refine H18.mono ?_
  rintro e w18 ⟨rfl, A18⟩
  have C18 : Cn (fun k => k < w1.heap.size ∨ k = b) w1 w18 w1.heap.size rs [[], f ++ l] 1048576 b 0 ⟨[], f ++ l, ((f ++ l).length : Nat), false, false, true⟩ := A18.1
  clear A18 C17 H18
  have H19 := cowrite_any C18 1073741824
  rw [cl_n _ HLEN.out.2, cl_write _ HLEN.out.2] at H19
  go_wp2_with fail
  refine H19.mono ?_
  rintro e w19 ⟨g, rfl, hg, hrow, A19⟩
  have C19 : Cn (fun k => k < w1.heap.size ∨ k = b) w1 w19 w1.heap.size rs [[], []] 1048576 b 0 ⟨[], [], 0, false, false, true⟩ := A19.1.weak (fun _ h => .inl h) C18.own
  rw [List.take_length] at hrow
  have hgl := heap_lt hrow
  have SX := src_row hrow rfl (Nat.le_trans HLEN.out.2 (by decide))
  clear A19 C18 H19 hrow
  have U0 : Below w19.heap.size w19 (w19.alloc (.cells #[] 5)) := (Below.refl _ _).alloc (Nat.le_refl _) _
  obtain ⟨s0, p0'⟩ := S0.out _ (C19.bel.trans (U0.mono C19.bel.size))
  obtain ⟨v1, w20, r20, O20, B20⟩ := own_append (Own.empty w19.heap.size w19 (Nat.le_refl _)) s0 z0 (by have := HF.out; simp only [List.length_nil]; omega) U0.size
  have D20 := U0.trans B20
  obtain ⟨s1, p1'⟩ := S1.out _ (C19.bel.trans (D20.mono C19.bel.size))
  obtain ⟨v2, w21, r21, O21, B21⟩ := own_append O20 s1 z1 (by have := HF.out; have := HL.out; simp only [List.nil_append]; omega) D20.size
  have D21 := D20.trans B21
  have R20 : Hid _ := r20
  have R21 : Hid _ := r21
  obtain ⟨kx, sx, -⟩ := O21.src
  have HS := sameBytes_eq (f ++ l) g kx _ v2 w21 (SX.below hgl D21) sx
  have C21 := C19.below D21
  clear r20 r21 U0 s0 p0' B20 s1 p1' O20 O21 B21 SX sx C19 D20 D21 S0 S1 S2
  generalize (f ++ l).length = xl at *
  go_wp2_with (first | (at_builtin; refine wpList_append_run2 rfl _ _ 31 31 rfl _ _ _ w20 rfl rfl R20.out ?_) | (at_builtin; refine wpList_append_run2 rfl _ _ 31 31 rfl _ _ _ w21 rfl rfl R21.out ?_))
  refine HS.mono ?_
  rintro e w22 ⟨rfl, B22⟩
  have C22 := C21.below B22
  clear HS C21 B22 R20 R21
  go_wp2_with fail
  refine (codone_any C22).mono ?_
  rw [show doneS ⟨[], [], 0, false, false, true⟩ = true from rfl]
  rintro e w' ⟨rfl, hw⟩
  rw [hw]
  clear hw
  obtain ⟨p, HK⟩ := C22.many
  have HD := held_q w1.heap.size 1048576 _ p w22 HK.isM
  rw [show (((tot [[], []] : Nat)) : Int) = 0 from rfl] at HD
  clear HK
  go_wp2_with fail
  refine HD.mono ?_
  rintro e w' ⟨rfl, hw⟩
  rw [hw]
  clear hw HD
  go_wp2_with fail
  refine (cowant_any C22).mono ?_
  rw [show wantS ⟨[], [], 0, false, false, true⟩ = 0 from rfl]
  rintro e w23 ⟨rfl, B23⟩
  have C23 := C22.below B23
  have HE : Hid (Below w.heap.size w w23) := HB1.out.trans (C23.bel.mono HB1.out.size)
  clear C22 C23 B23
  go_wp2
  go_ret
  exact ⟨rfl, HE.out⟩
end Go.Proofs.YtemmmdhmkegaaaaGreatDoor

/- The reference's Body. -/
namespace Go.Proofs.YtemmmdhmkegaaaaGreatDoor
open Go.ChangeShapes Go.WideShapes Go.ChangeAt Go.RowKit
set_option linter.unusedVariables false

/-- A body that is told: its bytes, how many it takes, whether it is whole, the error. -/
def rbodyP (l : List UInt8) (sz : Nat) (coded : Bool) : List UInt8 × Nat × Bool × Int :=
  if coded = true then ((decR 4096 l).1, (decR 4096 l).2.1, decide (0 < (decR 4096 l).2.1), (decR 4096 l).2.2)
  else if l.length < sz then ([], 0, false, 0) else (l.take sz, sz, true, 0)
def BodyR (w : World) (X : List UInt8 × Nat × Bool × Int) (e : Ending) (w' : World) : Prop := ∃ v, e = .returned (.tuple #[v, .int .i64 (X.2.1 : Nat), .bool X.2.2.1, .int .i64 X.2.2.2]) ∧ Own w.heap.size w' v X.1 ∧ Below w.heap.size w w'
theorem src_nil (W : World) (k : Nat) (a : Option Addr) : Src W k (.slice a 0 0) [] := ⟨a, 0, rfl, Nat.le_refl _, Nat.zero_le _, fun h => absurd h (Nat.lt_irrefl _)⟩

set_option maxRecDepth 100000 in
set_option maxHeartbeats 4000000 in
theorem rbody_any (l : List UInt8) (kb c : Nat) (a : Option Addr) (sz : Nat) (coded : Bool) (w : World) (hs : Src w kb (.slice a l.length c) l) (hk : 0 < l.length → kb < w.heap.size) (hlen : l.length ≤ 1099511627776) (hsz : sz ≤ 4096) :
    Calls Tryz.prog 66 #[.slice a l.length c, .int .i64 (sz : Nat), .bool coded] w (BodyR w (rbodyP l sz coded)) := by
  have hln := hs.len
  cases coded
  · by_cases hlt : l.length < sz
    · have HE : Hid (rbodyP l sz false = ([], 0, false, 0)) := by unfold rbodyP; rw [Hid, if_neg (by decide), if_pos hlt]
      have hli : (l.length : Int) < (sz : Int) := by omega
      clear hs hk hln
      generalize l.length = n at *
      go_enter Tryz.func66, Tryz.ntmps66
      go_wp2
      refine bodyPost_ret (v := .tuple #[.slice none 0 0, .int .i64 0, .bool false, .int .i64 0]) (by simp [results, Tryz.results66, go_sem]) rfl ?_
      rw [HE.out]
      exact ⟨_, rfl, Own.nil _ _, Below.refl _ _⟩
    · have HE : Hid (rbodyP l sz false = (l.take sz, sz, true, 0)) := by unfold rbodyP; rw [Hid, if_neg (by decide), if_neg hlt]
      have hli : ¬ (l.length : Int) < (sz : Int) := by omega
      have C0 : Below w.heap.size w (w.alloc (.cells #[] 5)) := (Below.refl _ _).alloc (Nat.le_refl _) _
      have S1 : Src w kb (.slice a sz c) (l.take sz) := hs.take (by omega)
      have hl2 : (l.take sz).length = sz := by rw [List.length_take]; omega
      have HJ : Hid (Calls Tryz.prog 44 #[.slice a sz c, .slice (some ⟨w.heap.size, 0, none⟩) 0 0] (w.alloc (.cells #[] 5)) fun e w' => ∃ v', e = .returned v' ∧ Own w.heap.size w' v' (l.take sz) ∧ Below w.heap.size w w') := by
        refine (join_any (l.take sz) [] kb w.heap.size (.slice a sz c) _ _ (S1.keep (fun h => hk (by rw [hl2] at h; omega)) C0) (fun h => Nat.lt_of_lt_of_le (hk (by rw [hl2] at h; omega)) C0.size) (src_nil _ _ _) (fun h => absurd h (Nat.lt_irrefl _)) (by rw [hl2]; simp; omega)).mono ?_
        rintro e w' ⟨v', he, hO, hB⟩
        rw [List.append_nil] at hO
        exact ⟨v', he, hO.mono C0.size, C0.trans (hB.mono C0.size)⟩
      have hc2 : l.length ≤ c := hln.2.1
      have hc3 : c ≤ maxLen := hln.2.2
      unfold maxLen at hc3
      clear hs hk S1 C0 hl2 hln
      generalize l.length = n at *
      go_enter Tryz.func66, Tryz.ntmps66
      go_wp2_with fail
      refine HJ.out.mono ?_
      rintro e w1 ⟨v1, rfl, O1, B1⟩
      go_wp2
      refine bodyPost_ret (v := .tuple #[v1, .int .i64 (sz : Nat), .bool true, .int .i64 0]) (by simp [results, Tryz.results66, go_sem]) rfl ?_
      rw [HE.out]
      exact ⟨_, rfl, O1, B1⟩
  · have HE : Hid (rbodyP l sz true = ((decR 4096 l).1, (decR 4096 l).2.1, decide (0 < (decR 4096 l).2.1), (decR 4096 l).2.2)) := by unfold rbodyP; rw [Hid, if_pos rfl]
    have HD : Hid (Calls Tryz.prog 92 #[.slice a l.length c, .int .i64 4096] w (DecQ w (decR 4096 l))) := rdecode_nat l kb _ 4096 (by decide) w hs hk hlen
    clear hs hk hln
    generalize l.length = n at *
    generalize decR 4096 l = X at *
    obtain ⟨X1, X2, X3⟩ := X
    simp only at HE
    go_enter Tryz.func66, Tryz.ntmps66
    go_wp2_with fail
    refine HD.out.mono ?_
    rintro e w1 ⟨v1, rfl, O1, B1⟩
    go_wp2
    refine bodyPost_ret (v := .tuple #[v1, .int .i64 (X2 : Nat), .bool (decide ((0 : Int) < (X2 : Int))), .int .i64 X3]) (by simp [results, Tryz.results66, go_sem]) rfl ?_
    rw [HE.out, int_pos]
    exact ⟨_, rfl, O1, B1⟩

theorem decL_st : ∀ (f m : Nat) (l : List UInt8), ¬ (decL f m l).2.1 = 0 → (decL f m l).2.2 = 0 := by
  intro f m l h
  cases f with
  | zero => exact absurd rfl h
  | succ f =>
    unfold decL at h ⊢
    split at h
    · exact absurd rfl h
    · rename_i k1
      rw [if_neg k1]
      split at h
      · rename_i k2
        rw [if_pos k2]
        unfold plusD at h ⊢
        split at h
        · exact absurd rfl h
        · rename_i k3; rw [if_neg k3]
      · rename_i k2
        rw [if_neg k2]
        unfold plusD at h ⊢
        split at h
        · exact absurd rfl h
        · rename_i k3; rw [if_neg k3]
/-- The body behind a head, as the reference has it. -/
theorem body_ref (b : List UInt8) (n sz : Nat) (coded : Bool) (hn : 0 < n) (hl : n ≤ b.length) : bodyQ b n (sz : Int) coded = if (rbodyP (b.drop n) sz coded).2.2.1 = true then ((rbodyP (b.drop n) sz coded).1, n + (rbodyP (b.drop n) sz coded).2.1, 0) else ([], 0, (rbodyP (b.drop n) sz coded).2.2.2) := by
  unfold bodyQ rbodyP
  cases coded
  · simp only [Bool.false_eq_true, if_false, List.length_drop]
    by_cases h : b.length - n < sz
    · rw [if_pos (show ((b.length - n : Nat) : Int) < (sz : Int) by omega), if_pos h]; rfl
    · rw [if_neg (show ¬ ((b.length - n : Nat) : Int) < (sz : Int) by omega), if_neg h]; rfl
  · simp only [if_true]
    by_cases h : (decR 4096 (b.drop n)).2.1 = 0
    · rw [if_pos h, decide_eq_false (by omega), if_neg (by decide)]
    · rw [if_neg h, decide_eq_true (by omega), if_pos rfl]
theorem body_whole (l : List UInt8) (sz : Nat) (coded : Bool) (h : (rbodyP l sz coded).2.2.1 = true) : (rbodyP l sz coded).2.2.2 = 0 := by
  unfold rbodyP at h ⊢
  cases coded
  · simp only [Bool.false_eq_true, if_false]
    split <;> rfl
  · simp only [if_true] at h ⊢
    exact decL_st _ _ _ (by have := of_decide_eq_true h; unfold decR at this; omega)
end Go.Proofs.YtemmmdhmkegaaaaGreatDoor

/- The reference's Waits. -/
namespace Go.Proofs.YtemmmdhmkegaaaaGreatDoor
open Go.ChangeShapes Go.WideShapes Go.ChangeAt Go.RowKit
set_option linter.unusedVariables false

def lExp : ByteArray := ⟨#[101, 120, 112, 101, 99, 116]⟩
theorem headQ_minor (b : List UInt8) (h : ¬ (headQ b).n = 0) : (headQ b).minor = 0 ∨ (headQ b).minor = 1 := by
  rw [headQ_open] at h ⊢
  generalize rlines b = X at *
  obtain ⟨ss, n, code⟩ := X
  cases ss with
  | nil => exact absurd rfl h
  | cons s ss =>
    have e : openQ (s :: ss, n, code) = openK (rqP s) (fldsP ss 40) n code := rfl
    rw [e] at h ⊢
    unfold openK at h ⊢
    split at h
    · rename_i k1
      rw [if_pos k1]
      split at h
      · rename_i k2
        rw [if_pos k2]
        split at h
        · exact absurd rfl h
        · rename_i k3
          rw [if_neg k3]
          split at h
          · rename_i k4
            rw [if_pos k4]
            exact (req_back k1).2.1
          · exact absurd rfl h
      · exact absurd rfl h
    · exact absurd rfl h

set_option maxRecDepth 100000 in
set_option maxHeartbeats 8000000 in
theorem r8waits_any (b : List UInt8) (kb c : Nat) (a : Option Addr) (w : World) (hs : Src w kb (.slice a b.length c) b) (hk : 0 < b.length → kb < w.heap.size) (hlen : b.length ≤ 1099511627776) :
    Calls Tryz.prog 53 #[.slice a b.length c] w fun e w' => e = .returned (.bool (waitsQ b)) ∧ Below w.heap.size w w' := by
  have HOP : Hid (Calls Tryz.prog 65 #[.slice a b.length c] w (OpenR w (headQ b))) := ropened_any b kb c a w hs hk
  have HOK : Hid (HdOk b.length (headQ b)) := headQ_ok b
  have HMI : Hid (¬ (headQ b).n = 0 → (headQ b).minor = 0 ∨ (headQ b).minor = 1) := headQ_minor b
  obtain ⟨sz, hsz⟩ : ∃ sz : Nat, (reqF (headQ b).fs (headQ b).minor).1 = (sz : Int) := ⟨(reqF (headQ b).fs (headQ b).minor).1.toNat, by have := (told_nn (headQ b).fs (headQ b).minor).1; unfold reqF; simp only; omega⟩
  have hszb : sz ≤ 4096 := by have k := (told_nn (headQ b).fs (headQ b).minor).2; unfold reqF at hsz; simp only at hsz; omega
  have hQ : reqQ b = if (headQ b).n = 0 then rdNo (headQ b).st else rdOf (headQ b) (bodyOf (headQ b) b) := rfl
  have hWQ : waitsQ b = if (headQ b).n = 0 then false else if ¬ (headQ b).minor = 1 then false else if hasF (headQ b).fs tExp t100 = false then false else (decide ((reqQ b).n = 0) && decide ((reqQ b).st = 0)) := rfl
  have HL := hs.len
  have hc2 : b.length ≤ c := HL.2.1
  have hc3 : c ≤ maxLen := HL.2.2
  unfold maxLen at hc3
  have HHA : Hid (∀ (W : World) (fa : Option Addr) (fc : Nat), Fds W.heap.size W (.slice fa (headQ b).fs.length fc) (headQ b).fs → Calls Tryz.prog 72 #[.slice fa (headQ b).fs.length fc, .string ⟨#[101, 120, 112, 101, 99, 116]⟩, .string ⟨#[49, 48, 48, 45, 99, 111, 110, 116, 105, 110, 117, 101]⟩] W fun e w' => e = .returned (.bool (hasF (headQ b).fs tExp t100)) ∧ Below W.heap.size W w') := fun W fa fc F => by
    have k := rhas_any (headQ b).fs fa fc lExp t100 W F (bd_big HOK.out.bd) (by decide) (by decide) (by have := HOK.out.len; omega)
    rw [hasF_congr (show foldS lExp = foldS tExp by decide +kernel)] at k
    exact k
  by_cases h0 : (headQ b).n = 0
  · have HE : Hid (waitsQ b = false) := by rw [Hid, hWQ, if_pos h0]
    unfold OpenR opV at HOP
    rw [h0] at HOP
    clear hs hk hQ hWQ hsz hszb HL HOK h0 HHA HMI
    generalize waitsQ b = Q at *
    generalize opS (headQ b) = sc at *
    generalize headQ b = H at *
    obtain ⟨m, t, mi, fs, n, st⟩ := H
    simp only at HOP
    generalize b.length = bl at *
    go_enter Tryz.func53, Tryz.ntmps53
    go_wp2_with fail
    refine HOP.out.mono ?_
    rintro e w1 ⟨fa, fc, rfl, O1, B1⟩
    have B2 := B1.alloc B1.size (.cells #[.string m, .string t, .int .i64 mi, .slice fa fs.length fc, .slice none 0 0] 43)
    clear HOP O1 B1
    go_wp2
    go_ret
    exact ⟨ret_bool HE.out.symm, B2⟩
  · have hop : opS (headQ b) = ((sz : Int), (reqF (headQ b).fs (headQ b).minor).2.1) := by unfold opS; rw [if_neg h0, hsz]
    have hnle := HOK.out.le.1
    have HY : Hid (reqQ b = if (rbodyP (b.drop (headQ b).n) sz (reqF (headQ b).fs (headQ b).minor).2.1).2.2.1 = true then ⟨(headQ b).m, (headQ b).t, (headQ b).minor, (headQ b).fs, (rbodyP (b.drop (headQ b).n) sz (reqF (headQ b).fs (headQ b).minor).2.1).1, (headQ b).n + (rbodyP (b.drop (headQ b).n) sz (reqF (headQ b).fs (headQ b).minor).2.1).2.1, 0⟩ else rdNo (bodySt (rbodyP (b.drop (headQ b).n) sz (reqF (headQ b).fs (headQ b).minor).2.1).2.2.2)) := by
      rw [Hid, hQ, if_neg h0]
      unfold bodyOf
      rw [hsz, body_ref b _ sz _ (by omega) hnle]
      unfold rdOf
      split
      · rename_i k
        rw [if_neg (by simp only; omega)]
      · rename_i k
        rw [if_pos rfl]
    have HCE : Hid (∀ (W : World) (a' : Option Addr), Below w.heap.size w W → ((headQ b).n < c → a' = a.map (fun x => x.add (headQ b).n)) → Src W kb (.slice a' (b.length - (headQ b).n) (c - (headQ b).n)) (b.drop (headQ b).n)) := fun W a' hB ha => (hs.keep hk hB).cut (m := (headQ b).n) hnle ha
    have HBD : Hid (∀ (W : World) (v : Value), Below w.heap.size w W → Src W kb v (b.drop (headQ b).n) → Calls Tryz.prog 66 #[v, .int .i64 (sz : Nat), .bool (reqF (headQ b).fs (headQ b).minor).2.1] W (BodyR W (rbodyP (b.drop (headQ b).n) sz (reqF (headQ b).fs (headQ b).minor).2.1))) := fun W v hB S1 => by
      have hl : (b.drop (headQ b).n).length = b.length - (headQ b).n := List.length_drop
      obtain ⟨a1, c1, rfl, _⟩ := id S1
      exact rbody_any _ kb _ _ sz _ W S1 (fun q => Nat.lt_of_lt_of_le (hk (by omega)) hB.size) (by omega) hszb
    rw [if_neg h0] at hWQ
    unfold OpenR opV at HOP
    rw [hop] at HOP
    have HWQ : Hid _ := hWQ
    clear hs hk hQ hop hsz hszb HL HOK hWQ
    generalize b.drop (headQ b).n = bd at *
    generalize rbodyP bd sz (reqF (headQ b).fs (headQ b).minor).2.1 = Y at *
    obtain ⟨Y1, Y2, Y3, Y4⟩ := Y
    generalize (reqF (headQ b).fs (headQ b).minor).2.1 = cd at *
    generalize waitsQ b = WQ at *
    generalize reqQ b = Q at *
    generalize headQ b = H at *
    obtain ⟨m, t, mi, fs, n, st⟩ := H
    simp only at HOP HY HBD HCE hnle h0 HWQ HHA HMI
    generalize hasF fs tExp t100 = hx at *
    generalize b.length = bl at *
    have h0' : ¬ ((n : Nat) : Int) = 0 := by omega
    have h0'' : (((n : Nat) : Int) == 0) = false := by simpa using h0'
    have hmi := HMI.out h0
    rcases hmi with rfl | rfl
    · have HE : Hid (WQ = false) := by rw [Hid, HWQ.out, if_pos (by decide)]
      clear HY HBD HHA HMI HWQ
      go_enter Tryz.func53, Tryz.ntmps53
      go_wp2_with fail
      refine HOP.out.mono ?_
      rintro e w1 ⟨fa, fc, rfl, O1, B1⟩
      have hr2 := tblk_new w1 (.cells #[.string m, .string t, .int .i64 0, .slice fa fs.length fc, .slice none 0 0] 43)
      have B2 := B1.alloc B1.size (.cells #[.string m, .string t, .int .i64 0, .slice fa fs.length fc, .slice none 0 0] 43)
      have d2 := tblk_cell (i := 2) hr2 rfl
      clear HOP O1 B1 hr2
      go_wp2
      go_ret
      exact ⟨ret_bool HE.out.symm, B2⟩
    · rw [if_neg (by decide)] at HWQ
      go_enter Tryz.func53, Tryz.ntmps53
      go_wp2_with fail
      refine HOP.out.mono ?_
      rintro e w1 ⟨fa, fc, rfl, O1, B1⟩
      have hr2 := tblk_new w1 (.cells #[.string m, .string t, .int .i64 1, .slice fa fs.length fc, .slice none 0 0] 43)
      have B2 := B1.alloc B1.size (.cells #[.string m, .string t, .int .i64 1, .slice fa fs.length fc, .slice none 0 0] 43)
      have O2 := O1.keep ((Below.refl _ _).alloc (Nat.le_refl _) (.cells #[.string m, .string t, .int .i64 1, .slice fa fs.length fc, .slice none 0 0] 43))
      have d2 := tblk_cell (i := 2) hr2 rfl
      have d3 := tblk_cell (i := 3) hr2 rfl
      clear HOP O1 B1 hr2 HMI
      go_wp2_with fail
      refine (HHA.out _ fa fc O2.fds).mono ?_
      rintro e w3 ⟨rfl, B3⟩
      have B4 := B2.trans (B3.mono B2.size)
      clear d2 d3 B2 B3 O2 HHA
      generalize w1.heap.size = p at *
      cases hx
      · have HE : Hid (WQ = false) := by rw [Hid, HWQ.out, if_pos rfl]
        clear HY HBD HWQ
        go_wp2
        go_ret
        exact ⟨ret_bool HE.out.symm, B4⟩
      · rw [if_neg (by decide)] at HWQ
        go_wp2_with fail
        all_goals
          have HBE := HBD.out w3
          have HBD : Hid (∀ v : Value, Src w3 kb v bd → Calls Tryz.prog 66 #[v, .int .i64 (sz : Nat), .bool cd] w3 (BodyR w3 (Y1, Y2, Y3, Y4))) := fun v h => HBE v B4 h
          have hcell : Hid (∀ a' : Option Addr, (n < c → a' = a.map (fun x => x.add n)) → Src w3 kb (.slice a' (bl - n) (c - n)) bd) := fun a' h => HCE.out w3 a' B4 h
          clear HBE
          unfold BodyR at HBD
          refine (HBD.out _ (by first | (have hx := hcell.out a (fun h => by omega); rw [show c - n = 0 by omega] at hx; exact hx) | exact hcell.out _ (fun _ => rfl) | exact hcell.out _ (fun h => if_neg (by omega)) | exact hcell.out _ (fun h => by omega))).mono ?_
          rintro e w5 ⟨v5, rfl, P5, B5⟩
          obtain ⟨ad5, c5, rfl, _⟩ := P5.form
          have D5 := B4.trans (B5.mono B4.size)
          clear P5 B5 B4 HBD
          generalize Y1.length = yl at *
          cases Y3
          · have HE : Hid (WQ = decide (Y4 = 0)) := by
              rw [Hid, HWQ.out, HY.out, if_neg (by decide)]
              unfold rdNo bodySt
              by_cases k : Y4 = 0
              · simp [k]
              · simp only [if_neg k]
                split <;> simp [k]
            clear HY HWQ
            go_wp2
            go_ret
            exact ⟨ret_bool (by (rw [HE.out]) <;> exact eq_dec _ _), D5⟩
          · have HE : Hid (WQ = false) := by
              rw [Hid, HWQ.out, HY.out, if_pos rfl]
              simp only
              rw [decide_eq_false (by omega)]
              rfl
            clear HY HWQ
            go_wp2
            go_ret
            exact ⟨ret_bool HE.out.symm, D5⟩

end Go.Proofs.YtemmmdhmkegaaaaGreatDoor

/- The reference's Request. -/
namespace Go.Proofs.YtemmmdhmkegaaaaGreatDoor
open Go.ChangeShapes Go.WideShapes Go.ChangeAt Go.RowKit
set_option linter.unusedVariables false

theorem rbody_le (l : List UInt8) (sz : Nat) (coded : Bool) : (rbodyP l sz coded).2.1 ≤ l.length := by
  unfold rbodyP
  cases coded
  · simp only [Bool.false_eq_true, if_false]
    split
    · exact Nat.zero_le _
    · simp only; omega
  · simp only [if_true]
    exact decR_le _ _

set_option maxRecDepth 100000 in
set_option maxHeartbeats 8000000 in
theorem r8req_any (b : List UInt8) (kb c : Nat) (a : Option Addr) (w : World) (hs : Src w kb (.slice a b.length c) b) (hk : 0 < b.length → kb < w.heap.size) (hlen : b.length ≤ 1099511627776) :
    Calls Tryz.prog 46 #[.slice a b.length c] w (ReqR w (reqQ b)) := by
  have U0 : Below w.heap.size w (w.alloc (.cells #[.string ⟨#[]⟩, .string ⟨#[]⟩, .int .i64 0, .slice none 0 0, .slice none 0 0] 43)) := (Below.refl _ _).alloc (Nat.le_refl _) _
  have HOP : Hid (Calls Tryz.prog 65 #[.slice a b.length c] (w.alloc (.cells #[.string ⟨#[]⟩, .string ⟨#[]⟩, .int .i64 0, .slice none 0 0, .slice none 0 0] 43)) fun e w' => ∃ fa fc, e = .returned (opV (headQ b) fa fc) ∧ OwnF (w.heap.size + 1) w' (.slice fa (headQ b).fs.length fc) (headQ b).fs ∧ w.heap.size + 1 ≤ w'.heap.size ∧ Below w.heap.size w w' ∧ w'.heap[w.heap.size]? = some (.cells #[.string ⟨#[]⟩, .string ⟨#[]⟩, .int .i64 0, .slice none 0 0, .slice none 0 0] 43)) := by
    refine (ropened_any b kb c a _ (hs.keep hk U0) (fun q => Nat.lt_of_lt_of_le (hk q) U0.size)).mono ?_
    rintro e w' ⟨fa, fc, he, hO, hB⟩
    have e1 : (w.alloc (.cells #[.string ⟨#[]⟩, .string ⟨#[]⟩, .int .i64 0, .slice none 0 0, .slice none 0 0] 43)).heap.size = w.heap.size + 1 := by simp
    rw [e1] at hO
    have hsz := hB.size
    rw [e1] at hsz
    exact ⟨fa, fc, he, hO, hsz, U0.trans (hB.mono (by simp)), tblk_below (tblk_new _ _) hB⟩
  have HOK : Hid (HdOk b.length (headQ b)) := headQ_ok b
  obtain ⟨sz, hsz⟩ : ∃ sz : Nat, (reqF (headQ b).fs (headQ b).minor).1 = (sz : Int) := ⟨(reqF (headQ b).fs (headQ b).minor).1.toNat, by have := (told_nn (headQ b).fs (headQ b).minor).1; unfold reqF; simp only; omega⟩
  have hszb : sz ≤ 4096 := by have k := (told_nn (headQ b).fs (headQ b).minor).2; unfold reqF at hsz; simp only at hsz; omega
  have hQ : reqQ b = if (headQ b).n = 0 then rdNo (headQ b).st else rdOf (headQ b) (bodyOf (headQ b) b) := rfl
  have HL := hs.len
  have hc2 : b.length ≤ c := HL.2.1
  have hc3 : c ≤ maxLen := HL.2.2
  unfold maxLen at hc3
  by_cases h0 : (headQ b).n = 0
  · have HE : Hid (reqQ b = rdNo (headQ b).st) := by rw [Hid, hQ, if_pos h0]
    have hop : opS (headQ b) = (0, false) := by unfold opS; rw [if_pos h0]
    unfold opV at HOP
    rw [hop, h0] at HOP
    clear hs hk U0 hQ hop hsz hszb HL HOK h0
    generalize reqQ b = Q at *
    generalize headQ b = H at *
    obtain ⟨m, t, mi, fs, n, st⟩ := H
    simp only at HOP HE
    generalize b.length = bl at *
    go_enter Tryz.func46, Tryz.ntmps46
    go_wp2_with fail
    refine HOP.out.mono ?_
    rintro e w1 ⟨fa, fc, rfl, O1, hs1, B1, hg1⟩
    clear HOP O1 hs1
    have B2 := B1.alloc B1.size (.cells #[.string m, .string t, .int .i64 mi, .slice fa fs.length fc, .slice none 0 0] 43)
    have hg2 := tblk_below hg1 ((Below.refl _ _).alloc (Nat.le_refl _) (.cells #[.string m, .string t, .int .i64 mi, .slice fa fs.length fc, .slice none 0 0] 43))
    clear B1 hg1
    have HBZ : Hid _ := five_below (.string ⟨#[]⟩) (.string ⟨#[]⟩) (.int .i64 0) (.slice none 0 0) (.slice none 0 0) B2 (Nat.le_refl _)
    unfold five at HBZ
    have HW := five_cells hg2 (.string ⟨#[]⟩) (.string ⟨#[]⟩) (.int .i64 0) (.slice none 0 0) (.slice none 0 0)
    have a0 := tblk_cell (i := 0) hg2 rfl
    have z0 := lblk_z (i := 0) hg2
    have a1 := tblk_cell (i := 1) hg2 rfl
    have z1 := lblk_z (i := 1) hg2
    have a2 := tblk_cell (i := 2) hg2 rfl
    have z2 := lblk_z (i := 2) hg2
    have a3 := tblk_cell (i := 3) hg2 rfl
    have z3 := lblk_z (i := 3) hg2
    have a4 := tblk_cell (i := 4) hg2 rfl
    have z4 := lblk_z (i := 4) hg2
    have r0 := tblk_cell (i := 0) HW rfl
    have r1 := tblk_cell (i := 1) HW rfl
    have r2 := tblk_cell (i := 2) HW rfl
    have r3 := tblk_cell (i := 3) HW rfl
    have r4 := tblk_cell (i := 4) HW rfl
    unfold five at r0 r1 r2 r3 r4
    clear HW hg2
    clear B2
    go_wp2
    refine bodyPost_ret (v := .tuple #[.agg #[.string ⟨#[]⟩, .string ⟨#[]⟩, .int .i64 0, .slice none 0 0, .slice none 0 0], .int .i64 0, .int .i64 st]) (by simp [results, Tryz.results46, go_sem, r0, r1, r2, r3, r4]) rfl ?_
    rw [HE.out]
    exact ⟨none, none, 0, 0, rfl, OwnF.nil _ _, Own.nil _ _, HBZ.out⟩
  · have hop : opS (headQ b) = ((sz : Int), (reqF (headQ b).fs (headQ b).minor).2.1) := by unfold opS; rw [if_neg h0, hsz]
    have hnle := HOK.out.le.1
    have HY : Hid (reqQ b = if (rbodyP (b.drop (headQ b).n) sz (reqF (headQ b).fs (headQ b).minor).2.1).2.2.1 = true then ⟨(headQ b).m, (headQ b).t, (headQ b).minor, (headQ b).fs, (rbodyP (b.drop (headQ b).n) sz (reqF (headQ b).fs (headQ b).minor).2.1).1, (headQ b).n + (rbodyP (b.drop (headQ b).n) sz (reqF (headQ b).fs (headQ b).minor).2.1).2.1, 0⟩ else rdNo (bodySt (rbodyP (b.drop (headQ b).n) sz (reqF (headQ b).fs (headQ b).minor).2.1).2.2.2)) := by
      rw [Hid, hQ, if_neg h0]
      unfold bodyOf
      rw [hsz, body_ref b _ sz _ (by omega) hnle]
      unfold rdOf
      split
      · rename_i k
        rw [if_neg (by simp only; omega)]
      · rename_i k
        rw [if_pos rfl]
    have HYB : Hid ((rbodyP (b.drop (headQ b).n) sz (reqF (headQ b).fs (headQ b).minor).2.1).2.1 ≤ b.length) := by rw [Hid]; have := rbody_le (b.drop (headQ b).n) sz (reqF (headQ b).fs (headQ b).minor).2.1; rw [List.length_drop] at this; omega
    have HWH : Hid ((rbodyP (b.drop (headQ b).n) sz (reqF (headQ b).fs (headQ b).minor).2.1).2.2.1 = true → (rbodyP (b.drop (headQ b).n) sz (reqF (headQ b).fs (headQ b).minor).2.1).2.2.2 = 0) := body_whole _ _ _
    have HCE : Hid (∀ (W : World) (a' : Option Addr), Below w.heap.size w W → ((headQ b).n < c → a' = a.map (fun x => x.add (headQ b).n)) → Src W kb (.slice a' (b.length - (headQ b).n) (c - (headQ b).n)) (b.drop (headQ b).n)) := fun W a' hB ha => (hs.keep hk hB).cut (m := (headQ b).n) hnle ha
    have HBD : Hid (∀ (W : World) (v : Value), Below w.heap.size w W → Src W kb v (b.drop (headQ b).n) → Calls Tryz.prog 66 #[v, .int .i64 (sz : Nat), .bool (reqF (headQ b).fs (headQ b).minor).2.1] W (BodyR W (rbodyP (b.drop (headQ b).n) sz (reqF (headQ b).fs (headQ b).minor).2.1))) := fun W v hB S1 => by
      have hl : (b.drop (headQ b).n).length = b.length - (headQ b).n := List.length_drop
      obtain ⟨a1, c1, rfl, _⟩ := id S1
      exact rbody_any _ kb _ _ sz _ W S1 (fun q => Nat.lt_of_lt_of_le (hk (by omega)) hB.size) (by omega) hszb
    unfold opV at HOP
    rw [hop] at HOP
    clear hs hk U0 hQ hop hsz hszb HL HOK
    generalize b.drop (headQ b).n = bd at *
    generalize rbodyP bd sz (reqF (headQ b).fs (headQ b).minor).2.1 = Y at *
    obtain ⟨Y1, Y2, Y3, Y4⟩ := Y
    generalize (reqF (headQ b).fs (headQ b).minor).2.1 = cd at *
    generalize reqQ b = Q at *
    generalize headQ b = H at *
    obtain ⟨m, t, mi, fs, n, st⟩ := H
    simp only at HOP HY HWH HYB HBD HCE hnle h0
    generalize b.length = bl at *
    have h0' : ¬ ((n : Nat) : Int) = 0 := by omega
    have h0'' : (((n : Nat) : Int) == 0) = false := by simpa using h0'
    cases Y3
    · have HE0 : Hid (Q = rdNo (bodySt Y4)) := by rw [Hid, HY.out, if_neg (by decide)]
      clear HY HWH HYB h0
      go_enter Tryz.func46, Tryz.ntmps46
      go_wp2_with fail
      refine HOP.out.mono ?_
      rintro e w1 ⟨fa, fc, rfl, O1, hs1, B1, hg1⟩
      clear HOP O1 hs1
      have B2 := B1.alloc B1.size (.cells #[.string m, .string t, .int .i64 mi, .slice fa fs.length fc, .slice none 0 0] 43)
      have hg2 := tblk_below hg1 ((Below.refl _ _).alloc (Nat.le_refl _) (.cells #[.string m, .string t, .int .i64 mi, .slice fa fs.length fc, .slice none 0 0] 43))
      clear B1 hg1
      go_wp2_with fail
      all_goals
        generalize w1.alloc (.cells #[.string m, .string t, .int .i64 mi, .slice fa fs.length fc, .slice none 0 0] 43) = w2 at *
        have HBE := HBD.out w2
        have HBD : Hid (∀ v : Value, Src w2 kb v bd → Calls Tryz.prog 66 #[v, .int .i64 (sz : Nat), .bool cd] w2 (BodyR w2 (Y1, Y2, false, Y4))) := fun v h => HBE v B2 h
        have hcell : Hid (∀ a' : Option Addr, (n < c → a' = a.map (fun x => x.add n)) → Src w2 kb (.slice a' (bl - n) (c - n)) bd) := fun a' h => HCE.out w2 a' B2 h
        clear HBE
        unfold BodyR at HBD
        refine (HBD.out _ (by first | (have hx := hcell.out a (fun h => by omega); rw [show c - n = 0 by omega] at hx; exact hx) | exact hcell.out _ (fun _ => rfl) | exact hcell.out _ (fun h => if_neg (by omega)) | exact hcell.out _ (fun h => by omega))).mono ?_
        rintro e w3 ⟨v3, rfl, P3, B3⟩
        obtain ⟨ad3, c3, rfl, _⟩ := P3.form
        have D3 := B2.trans (B3.mono B2.size)
        have hg3 := tblk_below hg2 B3
        clear P3 B3 B2 hg2 HBD
        generalize Y1.length = yl at *
        by_cases h2 : Y4 = 2
        · subst h2
          have HE : Hid (Q = rdNo 413) := HE0.out
          clear HE0
          have HBZ : Hid _ := five_below (.string ⟨#[]⟩) (.string ⟨#[]⟩) (.int .i64 0) (.slice none 0 0) (.slice none 0 0) D3 (Nat.le_refl _)
          unfold five at HBZ
          have HW := five_cells hg3 (.string ⟨#[]⟩) (.string ⟨#[]⟩) (.int .i64 0) (.slice none 0 0) (.slice none 0 0)
          have a0 := tblk_cell (i := 0) hg3 rfl
          have z0 := lblk_z (i := 0) hg3
          have a1 := tblk_cell (i := 1) hg3 rfl
          have z1 := lblk_z (i := 1) hg3
          have a2 := tblk_cell (i := 2) hg3 rfl
          have z2 := lblk_z (i := 2) hg3
          have a3 := tblk_cell (i := 3) hg3 rfl
          have z3 := lblk_z (i := 3) hg3
          have a4 := tblk_cell (i := 4) hg3 rfl
          have z4 := lblk_z (i := 4) hg3
          have r0 := tblk_cell (i := 0) HW rfl
          have r1 := tblk_cell (i := 1) HW rfl
          have r2 := tblk_cell (i := 2) HW rfl
          have r3 := tblk_cell (i := 3) HW rfl
          have r4 := tblk_cell (i := 4) HW rfl
          unfold five at r0 r1 r2 r3 r4
          clear HW hg3
          clear D3
          go_wp2
          refine bodyPost_ret (v := .tuple #[.agg #[.string ⟨#[]⟩, .string ⟨#[]⟩, .int .i64 0, .slice none 0 0, .slice none 0 0], .int .i64 0, .int .i64 413]) (by simp [results, Tryz.results46, go_sem, r0, r1, r2, r3, r4]) rfl ?_
          rw [HE.out]
          exact ⟨none, none, 0, 0, rfl, OwnF.nil _ _, Own.nil _ _, HBZ.out⟩
        · have h2b : (Y4 == 2) = false := by simpa using h2
          by_cases h3 : Y4 = 0
          · subst h3
            have HE : Hid (Q = rdNo 0) := HE0.out
            clear HE0
            have HBZ : Hid _ := five_below (.string ⟨#[]⟩) (.string ⟨#[]⟩) (.int .i64 0) (.slice none 0 0) (.slice none 0 0) D3 (Nat.le_refl _)
            unfold five at HBZ
            have HW := five_cells hg3 (.string ⟨#[]⟩) (.string ⟨#[]⟩) (.int .i64 0) (.slice none 0 0) (.slice none 0 0)
            have a0 := tblk_cell (i := 0) hg3 rfl
            have z0 := lblk_z (i := 0) hg3
            have a1 := tblk_cell (i := 1) hg3 rfl
            have z1 := lblk_z (i := 1) hg3
            have a2 := tblk_cell (i := 2) hg3 rfl
            have z2 := lblk_z (i := 2) hg3
            have a3 := tblk_cell (i := 3) hg3 rfl
            have z3 := lblk_z (i := 3) hg3
            have a4 := tblk_cell (i := 4) hg3 rfl
            have z4 := lblk_z (i := 4) hg3
            have r0 := tblk_cell (i := 0) HW rfl
            have r1 := tblk_cell (i := 1) HW rfl
            have r2 := tblk_cell (i := 2) HW rfl
            have r3 := tblk_cell (i := 3) HW rfl
            have r4 := tblk_cell (i := 4) HW rfl
            unfold five at r0 r1 r2 r3 r4
            clear HW hg3
            clear D3
            go_wp2
            refine bodyPost_ret (v := .tuple #[.agg #[.string ⟨#[]⟩, .string ⟨#[]⟩, .int .i64 0, .slice none 0 0, .slice none 0 0], .int .i64 0, .int .i64 0]) (by simp [results, Tryz.results46, go_sem, r0, r1, r2, r3, r4]) rfl ?_
            rw [HE.out]
            exact ⟨none, none, 0, 0, rfl, OwnF.nil _ _, Own.nil _ _, HBZ.out⟩
          · have h3b : (Y4 != 0) = true := by simpa using h3
            have HE : Hid (Q = rdNo 400) := by
              rw [Hid, HE0.out]
              unfold bodySt
              rw [if_neg h3, if_neg h2]
            clear HE0
            have HBZ : Hid _ := five_below (.string ⟨#[]⟩) (.string ⟨#[]⟩) (.int .i64 0) (.slice none 0 0) (.slice none 0 0) D3 (Nat.le_refl _)
            unfold five at HBZ
            have HW := five_cells hg3 (.string ⟨#[]⟩) (.string ⟨#[]⟩) (.int .i64 0) (.slice none 0 0) (.slice none 0 0)
            have a0 := tblk_cell (i := 0) hg3 rfl
            have z0 := lblk_z (i := 0) hg3
            have a1 := tblk_cell (i := 1) hg3 rfl
            have z1 := lblk_z (i := 1) hg3
            have a2 := tblk_cell (i := 2) hg3 rfl
            have z2 := lblk_z (i := 2) hg3
            have a3 := tblk_cell (i := 3) hg3 rfl
            have z3 := lblk_z (i := 3) hg3
            have a4 := tblk_cell (i := 4) hg3 rfl
            have z4 := lblk_z (i := 4) hg3
            have r0 := tblk_cell (i := 0) HW rfl
            have r1 := tblk_cell (i := 1) HW rfl
            have r2 := tblk_cell (i := 2) HW rfl
            have r3 := tblk_cell (i := 3) HW rfl
            have r4 := tblk_cell (i := 4) HW rfl
            unfold five at r0 r1 r2 r3 r4
            clear HW hg3
            clear D3
            go_wp2
            refine bodyPost_ret (v := .tuple #[.agg #[.string ⟨#[]⟩, .string ⟨#[]⟩, .int .i64 0, .slice none 0 0, .slice none 0 0], .int .i64 0, .int .i64 400]) (by simp [results, Tryz.results46, go_sem, r0, r1, r2, r3, r4]) rfl ?_
            rw [HE.out]
            exact ⟨none, none, 0, 0, rfl, OwnF.nil _ _, Own.nil _ _, HBZ.out⟩
    · have hy4 := HWH.out rfl
      subst hy4
      have HE : Hid (Q = ⟨m, t, mi, fs, Y1, n + Y2, 0⟩) := by rw [Hid, HY.out, if_pos rfl]
      have hyb : Y2 ≤ bl := HYB.out
      clear HY HWH HYB h0
      go_enter Tryz.func46, Tryz.ntmps46
      go_wp2_with fail
      refine HOP.out.mono ?_
      rintro e w1 ⟨fa, fc, rfl, O1, hs1, B1, hg1⟩
      clear HOP
      have B2 := B1.alloc B1.size (.cells #[.string m, .string t, .int .i64 mi, .slice fa fs.length fc, .slice none 0 0] 43)
      have U2 : Below w1.heap.size w1 (w1.alloc (.cells #[.string m, .string t, .int .i64 mi, .slice fa fs.length fc, .slice none 0 0] 43)) := (Below.refl _ _).alloc (Nat.le_refl _) _
      have hg2 := tblk_below hg1 U2
      have hr2 := tblk_new w1 (.cells #[.string m, .string t, .int .i64 mi, .slice fa fs.length fc, .slice none 0 0] 43)
      have O2 := O1.keep U2
      have hsp : w.heap.size < w1.heap.size := by omega
      have hkw0 : ∀ k, k < w1.heap.size → (w1.alloc (.cells #[.string m, .string t, .int .i64 mi, .slice fa fs.length fc, .slice none 0 0] 43)).heap[k]? = w1.heap[k]? := fun k hk => U2.block k hk
      clear B1 hg1 U2 hs1
      go_wp2_with fail
      all_goals
        generalize w1.alloc (.cells #[.string m, .string t, .int .i64 mi, .slice fa fs.length fc, .slice none 0 0] 43) = w2 at *
        generalize hpd : w1.heap.size = p at *
        have HPD : Hid (w1.heap.size = p) := hpd
        clear hpd
        have hp2 : p < w2.heap.size := heap_lt hr2
        have HBE := HBD.out w2
        have HBD : Hid (∀ v : Value, Src w2 kb v bd → Calls Tryz.prog 66 #[v, .int .i64 (sz : Nat), .bool cd] w2 (BodyR w2 (Y1, Y2, true, 0))) := fun v h => HBE v B2 h
        have hcell : Hid (∀ a' : Option Addr, (n < c → a' = a.map (fun x => x.add n)) → Src w2 kb (.slice a' (bl - n) (c - n)) bd) := fun a' h => HCE.out w2 a' B2 h
        clear HBE
        unfold BodyR at HBD
        refine (HBD.out _ (by first | (have hx := hcell.out a (fun h => by omega); rw [show c - n = 0 by omega] at hx; exact hx) | exact hcell.out _ (fun _ => rfl) | exact hcell.out _ (fun h => if_neg (by omega)) | exact hcell.out _ (fun h => by omega))).mono ?_
        rintro e w3 ⟨v3, rfl, P3, B3⟩
        obtain ⟨ad3, c3, rfl, _⟩ := P3.form
        have D3 := B2.trans (B3.mono B2.size)
        have hg3 := tblk_below hg2 B3
        have hr3 := tblk_below hr2 B3
        have hr4 := field4 (v := .slice ad3 Y1.length c3) hr3
        have hg4 : (w3.setCell ⟨p, 4, none⟩ (.slice ad3 Y1.length c3)).heap[w.heap.size]? = some (.cells #[.string ⟨#[]⟩, .string ⟨#[]⟩, .int .i64 0, .slice none 0 0, .slice none 0 0] 43) := (set_away (by omega)).trans hg3
        have D4 : Below w.heap.size w (w3.setCell ⟨p, 4, none⟩ (.slice ad3 Y1.length c3)) := D3.setCell (p := ⟨p, 4, none⟩) (Nat.le_of_lt hsp) _
        have HB5 : Hid _ := five_below (.string m) (.string t) (.int .i64 mi) (.slice fa fs.length fc) (.slice ad3 Y1.length c3) D4 (Nat.le_refl _)
        have HO5 : Hid (OwnF w.heap.size (five (w3.setCell ⟨p, 4, none⟩ (.slice ad3 Y1.length c3)) w.heap.size (.string m) (.string t) (.int .i64 mi) (.slice fa fs.length fc) (.slice ad3 Y1.length c3)) (.slice fa fs.length fc) fs) := (O1.kept (fun k h1 h2 => (five_away (by omega)).trans ((set_away (by have := HPD.out; omega)).trans ((B3.block k (by have := HPD.out; omega)).trans (hkw0 k (by have := HPD.out; omega)))))).mono (by omega)
        have HP5 : Hid (Own w.heap.size (five (w3.setCell ⟨p, 4, none⟩ (.slice ad3 Y1.length c3)) w.heap.size (.string m) (.string t) (.int .i64 mi) (.slice fa fs.length fc) (.slice ad3 Y1.length c3)) (.slice ad3 Y1.length c3) Y1) := (P3.kept (fun k h1 h2 => (five_away (by omega)).trans (set_away (by omega)))).mono (by omega)
        unfold five at HB5 HO5 HP5
        have y4 := tblk_cell (i := 4) hr3 rfl
        have x4 := lblk_z (i := 4) hr3
        have d0 := tblk_cell (i := 0) hr4 rfl
        have d1 := tblk_cell (i := 1) hr4 rfl
        have d2 := tblk_cell (i := 2) hr4 rfl
        have d3 := tblk_cell (i := 3) hr4 rfl
        have d4 := tblk_cell (i := 4) hr4 rfl
        clear hr3 hr4 hg3 D3 D4 O2 P3 B3 B2 hg2 hr2 hkw0 hsp O1 hp2 HBD
        generalize hxl : Y1.length = xl at *
        have HXL : Hid (Y1.length = xl) := hxl
        clear hxl
        have HW := five_cells hg4 (.string m) (.string t) (.int .i64 mi) (.slice fa fs.length fc) (.slice ad3 xl c3)
        have a0 := tblk_cell (i := 0) hg4 rfl
        have z0 := lblk_z (i := 0) hg4
        have a1 := tblk_cell (i := 1) hg4 rfl
        have z1 := lblk_z (i := 1) hg4
        have a2 := tblk_cell (i := 2) hg4 rfl
        have z2 := lblk_z (i := 2) hg4
        have a3 := tblk_cell (i := 3) hg4 rfl
        have z3 := lblk_z (i := 3) hg4
        have a4 := tblk_cell (i := 4) hg4 rfl
        have z4 := lblk_z (i := 4) hg4
        have r0 := tblk_cell (i := 0) HW rfl
        have r1 := tblk_cell (i := 1) HW rfl
        have r2 := tblk_cell (i := 2) HW rfl
        have r3 := tblk_cell (i := 3) HW rfl
        have r4 := tblk_cell (i := 4) HW rfl
        unfold five at r0 r1 r2 r3 r4
        clear HW hg4
        go_wp2
        refine bodyPost_ret (v := .tuple #[.agg #[.string m, .string t, .int .i64 mi, .slice fa fs.length fc, .slice ad3 xl c3], .int .i64 ((n : Int) + (Y2 : Int)), .int .i64 0]) (by simp [results, Tryz.results46, go_sem, r0, r1, r2, r3, r4]) rfl ?_
        rw [HE.out]
        obtain rfl := HXL.out
        exact ⟨fa, ad3, fc, c3, by unfold rdV; simp only; rw [Int.natCast_add], HO5.out, HP5.out, HB5.out⟩

end Go.Proofs.YtemmmdhmkegaaaaGreatDoor

/- The reference's Same: equal fields are the same. -/
namespace Go.Proofs.YtemmmdhmkegaaaaGreatDoor
open Go.ChangeShapes Go.WideShapes Go.ChangeAt Go.RowKit
set_option linter.unusedVariables false

set_option maxRecDepth 100000 in
set_option maxHeartbeats 1000000 in
theorem rsame_eq (a : Fs) (A B : Option Addr) (c d : Nat) (w : World) {X Y : Nat} (ha : Fds X w (.slice A a.length c) a) (hb : Fds Y w (.slice B a.length d) a) :
    Calls Tryz.prog 52 #[.slice A a.length c, .slice B a.length d] w fun e w' => e = .returned (.bool true) ∧ Below w.heap.size w w' := by
  have hla := ha.len
  unfold maxLen at hla
  rcases Nat.eq_zero_or_pos a.length with h0 | hp
  · have ea : a = [] := List.eq_nil_of_length_eq_zero h0
    subst ea
    clear ha hb hla h0
    go_enter Tryz.func52, Tryz.ntmps52
    go_wp2_with fail
    refine wp_loop_rounds 1 ?_
    rw [rounds_succ]
    go_wp2
    go_ret
    exact ⟨rfl, Below.refl _ _⟩
  · obtain ⟨A', c', e, _, _, _, h3⟩ := ha
    obtain ⟨rfl, _, rfl⟩ := slice_inj e
    obtain ⟨g1, o1, rfl, _, k1⟩ := h3 hp
    obtain ⟨B', d', e', _, _, _, h4⟩ := hb
    obtain ⟨rfl, _, rfl⟩ := slice_inj e'
    obtain ⟨g2, o2, rfl, _, k2⟩ := h4 hp
    have H1 : Hid (∀ (j : Nat) (hj : j < a.length), w.cell? ⟨g1, o1 + j * 2, none⟩ = some (.string a[j].1) ∧ w.cell? ⟨g1, o1 + j * 2 + 1, none⟩ = some (.string a[j].2)) := k1
    have H2 : Hid (∀ (j : Nat) (hj : j < a.length), w.cell? ⟨g2, o2 + j * 2, none⟩ = some (.string a[j].1) ∧ w.cell? ⟨g2, o2 + j * 2 + 1, none⟩ = some (.string a[j].2)) := k2
    have hln : a.length ≤ 9223372036854775807 := by omega
    clear k1 k2 e e' h3 h4 hla
    go_enter Tryz.func52, Tryz.ntmps52
    go_wp2_with fail
    go_loopw [5] (fun vi wr => ∃ k d : Nat, k ≤ a.length ∧ vi = .int .i64 k ∧ wr = w.drewN d) (fun vi _ => a.length - (intOf vi).toNat)
    case atStart => exact ⟨0, 0, Nat.zero_le _, rfl, by simp [World.drewN_zero]⟩
    case round =>
      obtain ⟨k, d, hk, rfl, rfl⟩ := hrel
      by_cases hlt : k < a.length
      · obtain ⟨p1, p2⟩ := H1.out k hlt
        obtain ⟨q1, q2⟩ := H2.out k hlt
        generalize a[k] = f at *
        obtain ⟨fn, fv⟩ := f
        simp only at p1 p2 q1 q2
        go_wp2
        go_quiet (fail)
        go_wp2
        go_roundw
        case rel => exact ⟨k + 1, _, by omega, by go_num, rfl⟩
        case measure => simp [intOf]; omega
      · go_wp2
        go_ret
        exact ⟨rfl, by refine ⟨?_, ?_, ?_, ?_, ?_⟩ <;> simp [World.drewN]⟩
end Go.Proofs.YtemmmdhmkegaaaaGreatDoor

/- The reference's SameReq: equal requests are the same. -/
namespace Go.Proofs.YtemmmdhmkegaaaaGreatDoor
open Go.RowKit
set_option linter.unusedVariables false

set_option maxRecDepth 100000 in
set_option maxHeartbeats 2000000 in
theorem samereq_eq (m t : ByteArray) (mi : Int) (fs : Fs) (body : List UInt8) (a1 a2 b1 b2 : Option Addr) (c1 c2 d1 d2 k1 k2 : Nat) (w : World) (hf1 : Fds w.heap.size w (.slice a1 fs.length c1) fs) (hf2 : Fds w.heap.size w (.slice a2 fs.length c2) fs) (hs1 : Src w k1 (.slice b1 body.length d1) body) (hk1 : 0 < body.length → k1 < w.heap.size) (hs2 : Src w k2 (.slice b2 body.length d2) body) (hk2 : 0 < body.length → k2 < w.heap.size) :
    Calls Tryz.prog 17 #[.agg #[.string m, .string t, .int .i64 mi, .slice a1 fs.length c1, .slice b1 body.length d1], .agg #[.string m, .string t, .int .i64 mi, .slice a2 fs.length c2, .slice b2 body.length d2]] w fun e w' => e = .returned (.bool true) ∧ Below w.heap.size w w' := by
  have C1 : Below w.heap.size w (w.alloc (.cells #[.string m, .string t, .int .i64 mi, .slice a1 fs.length c1, .slice b1 body.length d1] 43)) := (Below.refl _ _).alloc (Nat.le_refl _) _
  have C2 : Below w.heap.size w ((w.alloc (.cells #[.string m, .string t, .int .i64 mi, .slice a1 fs.length c1, .slice b1 body.length d1] 43)).alloc (.cells #[.string m, .string t, .int .i64 mi, .slice a2 fs.length c2, .slice b2 body.length d2] 43)) := C1.alloc C1.size _
  have h1 : ((w.alloc (.cells #[.string m, .string t, .int .i64 mi, .slice a1 fs.length c1, .slice b1 body.length d1] 43)).alloc (.cells #[.string m, .string t, .int .i64 mi, .slice a2 fs.length c2, .slice b2 body.length d2] 43)).heap[w.heap.size]? = some (.cells #[.string m, .string t, .int .i64 mi, .slice a1 fs.length c1, .slice b1 body.length d1] 43) := tblk_below (tblk_new _ _) ((Below.refl _ _).alloc (Nat.le_refl _) _)
  have h2 : ((w.alloc (.cells #[.string m, .string t, .int .i64 mi, .slice a1 fs.length c1, .slice b1 body.length d1] 43)).alloc (.cells #[.string m, .string t, .int .i64 mi, .slice a2 fs.length c2, .slice b2 body.length d2] 43)).heap[w.heap.size + 1]? = some (.cells #[.string m, .string t, .int .i64 mi, .slice a2 fs.length c2, .slice b2 body.length d2] 43) := by
    have k := tblk_new (w.alloc (.cells #[.string m, .string t, .int .i64 mi, .slice a1 fs.length c1, .slice b1 body.length d1] 43)) (.cells #[.string m, .string t, .int .i64 mi, .slice a2 fs.length c2, .slice b2 body.length d2] 43)
    have e : (w.alloc (.cells #[.string m, .string t, .int .i64 mi, .slice a1 fs.length c1, .slice b1 body.length d1] 43)).heap.size = w.heap.size + 1 := by simp
    rw [e] at k
    exact k
  have HF : Hid (Calls Tryz.prog 52 #[.slice a1 fs.length c1, .slice a2 fs.length c2] ((w.alloc (.cells #[.string m, .string t, .int .i64 mi, .slice a1 fs.length c1, .slice b1 body.length d1] 43)).alloc (.cells #[.string m, .string t, .int .i64 mi, .slice a2 fs.length c2, .slice b2 body.length d2] 43)) fun e w' => e = .returned (.bool true) ∧ Below w.heap.size w w' ∧ w'.cell? ⟨w.heap.size, 4, none⟩ = some (.slice b1 body.length d1) ∧ w'.cell? ⟨w.heap.size + 1, 4, none⟩ = some (.slice b2 body.length d2)) := by
    refine (rsame_eq fs a1 a2 c1 c2 _ (hf1.over C2) (hf2.over C2)).mono ?_
    rintro e w' ⟨he, hB⟩
    exact ⟨he, C2.trans (hB.mono C2.size), tblk_cell (tblk_below h1 hB) rfl, tblk_cell (tblk_below h2 hB) rfl⟩
  have HS : Hid (∀ W, Below w.heap.size w W → Calls Tryz.prog 27 #[.slice b1 body.length d1, .slice b2 body.length d2] W fun e w' => e = .returned (.bool true) ∧ Below W.heap.size W w') := fun W B => sameBytes_eq body k1 k2 _ _ W (hs1.keep hk1 B) (hs2.keep hk2 B)
  have x0 := tblk_cell (i := 0) h1 rfl
  have x1 := tblk_cell (i := 1) h1 rfl
  have x2 := tblk_cell (i := 2) h1 rfl
  have x3 := tblk_cell (i := 3) h1 rfl
  have y0 := tblk_cell (i := 0) h2 rfl
  have y1 := tblk_cell (i := 1) h2 rfl
  have y2 := tblk_cell (i := 2) h2 rfl
  have y3 := tblk_cell (i := 3) h2 rfl
  clear hf1 hf2 hs1 hk1 hs2 hk2 C1 C2 h1 h2
  generalize fs.length = fl at *
  generalize body.length = bl at *
  go_enter Tryz.func17, Tryz.ntmps17
  go_wp2_with fail
  refine HF.out.mono ?_
  rintro e w1 ⟨rfl, B1, q1, q2⟩
  clear HF x0 x1 x2 x3 y0 y1 y2 y3
  go_wp2_with fail
  refine (HS.out _ B1).mono ?_
  rintro e w2 ⟨rfl, B2⟩
  have D2 := B1.trans (B2.mono B1.size)
  go_wp2
  go_ret
  exact ⟨rfl, D2⟩
end Go.Proofs.YtemmmdhmkegaaaaGreatDoor

/- Numbers that came in. -/
namespace Go.Proofs.YtemmmdhmkegaaaaGreatDoor
open Go.ChangeShapes Go.WideShapes Go.ChangeAt Go.RowKit
set_option linter.unusedVariables false

def Nums (w : World) (a : Option Addr) (len : Nat) : Prop := len ≤ maxLen ∧ (0 < len → ∃ b off, a = some ⟨b, off, none⟩ ∧ b < w.heap.size ∧ ∀ i, i < len → ∃ z, w.cell? ⟨b, off + i, none⟩ = some (.int .i64 z))
theorem open_nums {H : Type} {enc : TypeId × Value → H} {w : World} {base : Nat} {held : Bool} {a : Option Addr} {len cap : Nat} {x : DataW H × List MemPlace}
    (h : ∃ fuel, DataW.trod enc Tryz.prog w base (fun _ => true) held fuel 63 (Value.slice a len cap).cells.toList = some x) : Nums w a len := by
  obtain ⟨fuel, hf⟩ := h
  rcases open_ints Tryz.underlying63 Tryz.underlying3 (by kernel_rfl) hf with ⟨hcs, _⟩ | ⟨x, l, c, zs, hcs, _, hl, hm, hz, _, hcell, hwz⟩
  · simp [Value.cells] at hcs
    obtain ⟨rfl, rfl, rfl⟩ := hcs
    exact ⟨Nat.zero_le _, fun h => absurd h (Nat.lt_irrefl _)⟩
  · simp [Value.cells] at hcs
    obtain ⟨rfl, rfl, rfl⟩ := hcs
    have hz' : zs.length = cap := by simpa using hz
    refine ⟨Nat.le_trans hl hm, fun hp => ?_⟩
    obtain ⟨b, off, rfl, hc⟩ := ints_at hcell (by omega)
    exact ⟨b, off, rfl, cell_lt (hc 0 (by omega)), fun i hi => ⟨_, hc i (by omega)⟩⟩
end Go.Proofs.YtemmmdhmkegaaaaGreatDoor
