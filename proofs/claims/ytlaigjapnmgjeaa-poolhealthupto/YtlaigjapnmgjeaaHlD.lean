/- The statements' own example of a health (caring). -/
import Derived.Test.YtlaigjapnmgjeaaHlC
namespace Go.Proofs.Ytlaigjapnmgjeaa
open Go.RowKit
set_option linter.unusedVariables false

theorem cell_frm {w w' : World} {h a b c n : Nat} {t f : KS → Int} {q : BF} (H : HL w h a b c n t f q) (F : FrM a b c w w') {p : Addr} {v : Value} (hp : w.cell? p = some v) : w'.cell? p = some v := by
  have hl := cellT_lt hp
  have key : ∀ m, (∃ es cl, w.heap[m]? = some (.map es cl)) → p.block ≠ m := fun m ⟨es, cl, hm⟩ e => by
    unfold World.cell? at hp
    rw [e, hm] at hp
    simp at hp
  have e : w'.heap[p.block]? = w.heap[p.block]? := F.block _ hl (key a H.ta.blk) (key b H.fa.blk) (key c H.qa.blk)
  unfold World.cell? at *
  rw [e]; exact hp
theorem Tx.frm {w w' : World} {h a b c n : Nat} {t f : KS → Int} {q : BF} {ad : Option Addr} {xs : List KS} (T : Tx w ad xs) (H : HL w h a b c n t f q) (F : FrM a b c w w') : Tx w' ad xs := ⟨T.1, T.2.1, fun hp => by
  obtain ⟨g, off, e, hg, hc⟩ := T.2.2 hp
  exact ⟨g, off, e, Nat.lt_of_lt_of_le hg F.size, fun i hi => cell_frm H F (hc i hi)⟩⟩
/-- The state of a walk with one upstream: health, its aims, where it lies. -/
structure CS (W : World) (h a b c n : Nat) (t f : KS → Int) (q : BF) (ub : Nat) (nm : KS) (ad : Option Addr) (cp : Nat) (xs : List KS) (w : World) : Prop where
  hl : HL W h a b c n t f q
  tx : Tx W ad xs
  c0 : W.cell? ⟨ub, 0, none⟩ = some (.string nm)
  c1 : W.cell? ⟨ub, 1, none⟩ = some (.slice ad xs.length cp)
  be : Below w.heap.size w W
  ba : w.heap.size ≤ a
  bb : w.heap.size ≤ b
  bc : w.heap.size ≤ c
theorem CS.bel {W W' : World} {h a b c n : Nat} {t f : KS → Int} {q : BF} {ub : Nat} {nm : KS} {ad : Option Addr} {cp : Nat} {xs : List KS} {w : World} (s : CS W h a b c n t f q ub nm ad cp xs w) (k : Below W.heap.size W W') : CS W' h a b c n t f q ub nm ad cp xs w :=
  ⟨s.hl.keep k, s.tx.keep k, (k.cell (p := ⟨ub, 0, none⟩) (cellT_lt s.c0)).trans s.c0, (k.cell (p := ⟨ub, 1, none⟩) (cellT_lt s.c1)).trans s.c1, s.be.trans (k.mono s.be.size), s.ba, s.bb, s.bc⟩
theorem CS.frm {W W' : World} {h a b c n n' : Nat} {t f t' f' : KS → Int} {q q' : BF} {ub : Nat} {nm : KS} {ad : Option Addr} {cp : Nat} {xs : List KS} {w : World} (s : CS W h a b c n t f q ub nm ad cp xs w) (k : FrM a b c W W') (H : HL W' h a b c n' t' f' q') : CS W' h a b c n' t' f' q' ub nm ad cp xs w :=
  ⟨H, s.tx.frm s.hl k, cell_frm s.hl k s.c0, cell_frm s.hl k s.c1, s.be.trans (k.below s.ba s.bb s.bc s.be.size), s.ba, s.bb, s.bc⟩
/-- Pick, where the aim that is picked is known. -/
theorem pick_at {W : World} {h a b c n : Nat} {t f : KS → Int} {q : BF} {ub : Nat} {nm : KS} {ad : Option Addr} {cp : Nat} {xs : List KS} {w : World} (s : CS W h a b c n t f q ub nm ad cp xs w) (now : Int) (tn i : Nat) (hnm : nm.size ≤ 281474976710656) (hn : n ≤ 1000000) (hnow : InR now) (htn : t nm = (tn : Int)) (htb : tn ≤ 1000000)
    (hi : i < xs.length) (hs : ∀ j, j < i → sickB (q (aimAt xs tn j)) now = true) (hw : sickB (q (aimAt xs tn i)) now = false) :
    Calls Try.prog 24 #[.pointer (some ⟨h, 0, none⟩), .agg #[.string nm, .slice ad xs.length cp], .int .i64 now] W fun e W' => e = .returned (.tuple #[.string (aimAt xs tn i), .int .i64 0]) ∧ CS W' h a b c (n + 1) (upd t nm (((tn + i) % xs.length + 1 : Nat) : Int)) f q ub nm ad cp xs w := by
  refine (hlpick_any nm xs ad cp now tn h a b c n t f q W s.hl s.tx hnm hn hnow htn htb).mono ?_
  rintro e W' (⟨k, hk, ks, kw, rfl, H, F⟩ | ⟨ks, rfl, _⟩)
  · obtain rfl : k = i := by
      rcases Nat.lt_trichotomy k i with x | x | x
      · have := hs k x; rw [kw] at this; cases this
      · exact x
      · have := ks i x; rw [hw] at this; cases this
    exact ⟨rfl, s.frm F H⟩
  · have := ks i hi; rw [hw] at this; cases this
theorem pick_none {W : World} {h a b c n : Nat} {t f : KS → Int} {q : BF} {ub : Nat} {nm : KS} {ad : Option Addr} {cp : Nat} {xs : List KS} {w : World} (s : CS W h a b c n t f q ub nm ad cp xs w) (now : Int) (tn : Nat) (hnm : nm.size ≤ 281474976710656) (hn : n ≤ 1000000) (hnow : InR now) (htn : t nm = (tn : Int)) (htb : tn ≤ 1000000)
    (hs : ∀ j, j < xs.length → sickB (q (aimAt xs tn j)) now = true) :
    Calls Try.prog 24 #[.pointer (some ⟨h, 0, none⟩), .agg #[.string nm, .slice ad xs.length cp], .int .i64 now] W fun e W' => e = .returned (.tuple #[.string ⟨#[]⟩, .int .i64 4]) ∧ CS W' h a b c n t f q ub nm ad cp xs w := by
  refine (hlpick_any nm xs ad cp now tn h a b c n t f q W s.hl s.tx hnm hn hnow htn htb).mono ?_
  rintro e W' (⟨k, hk, ks, kw, rfl, H, F⟩ | ⟨ks, rfl, k⟩)
  · have := hs k hk; rw [kw] at this; cases this
  · exact ⟨rfl, s.bel k⟩
theorem sick_at {W : World} {h a b c n : Nat} {t f : KS → Int} {q : BF} {ub : Nat} {nm : KS} {ad : Option Addr} {cp : Nat} {xs : List KS} {w : World} (s : CS W h a b c n t f q ub nm ad cp xs w) (k : KS) (now : Int) (hk : k.size ≤ 281474976710656) (hnow : InR now) (r : Bool) (hr : sickB (q k) now = r) :
    Calls Try.prog 29 #[.pointer (some ⟨h, 0, none⟩), .string k, .int .i64 now] W fun e W' => e = .returned (.bool r) ∧ CS W' h a b c n t f q ub nm ad cp xs w := by
  refine (hlsick_any k now h a b c n t f q W s.hl (by unfold maxLen; omega) hnow).mono ?_
  rintro e W' ⟨rfl, k⟩
  exact ⟨by rw [hr], s.bel k⟩
theorem badno_at {W : World} {h a b c n : Nat} {t f : KS → Int} {q : BF} {ub : Nat} {nm : KS} {ad : Option Addr} {cp : Nat} {xs : List KS} {w : World} (s : CS W h a b c n t f q ub nm ad cp xs w) (k : KS) (now fl co : Int) (hk : k.size ≤ 281474976710656) (hn : n ≤ 1000000) (hf : 0 ≤ f k ∧ f k ≤ 1000000) (hlt : f k + 1 < fl) :
    Calls Try.prog 26 #[.pointer (some ⟨h, 0, none⟩), .string k, .int .i64 now, confV fl co] W fun e W' => e = .returned (.bool false) ∧ CS W' h a b c (n + 1) t (upd f k (f k + 1)) q ub nm ad cp xs w := by
  refine (hlbad_no k now fl co h a b c n t f q W s.hl hk hn hf hlt).mono ?_
  rintro e W' ⟨rfl, H, F⟩
  exact ⟨rfl, s.frm F H⟩
theorem badyes_at {W : World} {h a b c n : Nat} {t f : KS → Int} {q : BF} {ub : Nat} {nm : KS} {ad : Option Addr} {cp : Nat} {xs : List KS} {w : World} (s : CS W h a b c n t f q ub nm ad cp xs w) (k : KS) (now fl co : Int) (hk : k.size ≤ 281474976710656) (hn : n ≤ 1000000) (hf : 0 ≤ f k ∧ f k ≤ 1000000) (hlt : ¬ f k + 1 < fl) (hnow : InR now) (hco : InR co) :
    Calls Try.prog 26 #[.pointer (some ⟨h, 0, none⟩), .string k, .int .i64 now, confV fl co] W fun e W' => e = .returned (.bool true) ∧ CS W' h a b c (n + 1) t (upd f k 0) (upd q k (some (now, co))) ub nm ad cp xs w := by
  refine (hlbad_yes k now fl co h a b c n t f q W s.hl hk hn hf hlt hnow hco).mono ?_
  rintro e W' ⟨rfl, H, F⟩
  exact ⟨rfl, s.frm F H⟩
theorem good_at {W : World} {h a b c n : Nat} {t f : KS → Int} {q : BF} {ub : Nat} {nm : KS} {ad : Option Addr} {cp : Nat} {xs : List KS} {w : World} (s : CS W h a b c n t f q ub nm ad cp xs w) (k : KS) (hk : k.size ≤ 281474976710656) :
    Calls Try.prog 27 #[.pointer (some ⟨h, 0, none⟩), .string k] W fun e W' => e = .returned (.tuple #[]) ∧ CS W' h a b c n t (upd f k 0) q ub nm ad cp xs w := by
  refine (hlgood_any k h a b c n t f q W s.hl (by unfold maxLen; omega)).mono ?_
  rintro e W' ⟨rfl, H, F⟩
  exact ⟨rfl, s.frm F H⟩
abbrev kA : KS := ⟨#[97]⟩
abbrev kB : KS := ⟨#[98]⟩
abbrev kU : KS := ⟨#[117]⟩
theorem tA : ByteArray.toList kA = [97] := by kernel_rfl
theorem kab : kA ≠ kB := by decide
set_option maxRecDepth 100000 in
set_option maxHeartbeats 4000000 in
theorem caring_any (w : World) : Calls Try.prog 22 #[] w fun e w' => e = .returned (.bool true) ∧ Below w.heap.size w w' := by
  have HN := hidE (fun W => hlnew_any W)
  go_enter Try.func22, Try.ntmps22
  go_wp2_with fail
  refine (HN.out _).mono ?_
  rintro e w1 ⟨rfl, H1, B1⟩
  clear HN
  have A1 : Below w1.heap.size w1 (w1.alloc (.cells #[.string kA, .string kB] 9)) := (Below.refl _ _).alloc (Nat.le_refl _) _
  have A2 : Below (w1.alloc (.cells #[.string kA, .string kB] 9)).heap.size (w1.alloc (.cells #[.string kA, .string kB] 9)) ((w1.alloc (.cells #[.string kA, .string kB] 9)).alloc (.cells #[.string kU, .slice (some ⟨w1.heap.size, 0, none⟩) 2 2] 32)) := (Below.refl _ _).alloc (Nat.le_refl _) _
  have e1 : (w1.alloc (.cells #[.string kA, .string kB] 9)).heap.size = w1.heap.size + 1 := by simp
  have tb := tblk_new w1 (.cells #[.string kA, .string kB] 9)
  have tu := tblk_new (w1.alloc (.cells #[.string kA, .string kB] 9)) (.cells #[.string kU, .slice (some ⟨w1.heap.size, 0, none⟩) 2 2] 32)
  rw [e1] at tu A2
  have T1 : Tx (w1.alloc (.cells #[.string kA, .string kB] 9)) (some ⟨w1.heap.size, 0, none⟩) [kA, kB] := ⟨by decide, fun s hs => by
    have : s = kA ∨ s = kB := by simpa using hs
    rcases this with rfl | rfl <;> decide, fun _ => ⟨_, 0, rfl, by rw [e1]; omega, fun i hi => by
      match i, hi with
      | 0, _ => exact tblk_cell tb rfl
      | 1, _ => exact tblk_cell tb rfl⟩⟩
  have C0 : CS ((w1.alloc (.cells #[.string kA, .string kB] 9)).alloc (.cells #[.string kU, .slice (some ⟨w1.heap.size, 0, none⟩) 2 2] 32)) (w.heap.size + 3) w.heap.size (w.heap.size + 1) (w.heap.size + 2) 0 (fun _ => 0) (fun _ => 0) (fun _ => none) (w1.heap.size + 1) kU (some ⟨w1.heap.size, 0, none⟩) 2 [kA, kB] w :=
    ⟨(H1.keep A1).keep (by rw [e1]; exact A2), T1.keep (by rw [e1]; exact A2), tblk_cell tu rfl, tblk_cell tu rfl, (B1.trans (A1.mono B1.size)).trans (A2.mono (by have := B1.size; omega)), Nat.le_refl _, by omega, by omega⟩
  have HC0 := hidE C0
  have c00 := C0.c0
  have c01 := C0.c1
  clear H1 B1 A1 A2 tb tu T1 C0 e1
  have HP1 := hidE (pick_at HC0.out 0 0 0 (by decide) (by decide) (by unfold InR; omega) rfl (by decide) (by decide) (fun j hj => absurd hj (Nat.not_lt_zero _)) rfl)
  have a0 : aimAt [kA, kB] 0 0 = kA := rfl
  have a1 : aimAt [kA, kB] 1 1 = kA := rfl
  have tA := tA
  rw [a0] at HP1
  go_wp2_with fail
  generalize w.heap.size + 3 = h at *
  refine HP1.out.mono ?_
  rintro e w2 ⟨rfl, C2⟩
  have HC2 := hidE C2
  clear HP1 HC0 c00 c01 C2
  have HB1 := hidE (badno_at HC2.out kB 5 2 3 (by decide) (by decide) (by decide) (by decide))
  go_wp2_with fail
  refine HB1.out.mono ?_
  rintro e w3 ⟨rfl, C3⟩
  have HC3 := hidE C3
  clear HB1 HC2 C3
  have HB2 := hidE (badyes_at HC3.out kB 5 2 3 (by decide) (by decide) (by rw [upd_same]; decide) (by rw [upd_same]; decide) (by unfold InR; omega) (by unfold InR; omega))
  go_wp2_with fail
  refine HB2.out.mono ?_
  rintro e w4 ⟨rfl, C4⟩
  have HC4 := hidE C4
  clear HB2 HC3 C4
  have HS1 := hidE (sick_at HC4.out kB 7 (by decide) (by unfold InR; omega) true (by rw [upd_same]; decide))
  go_wp2_with fail
  refine HS1.out.mono ?_
  rintro e w5 ⟨rfl, C5⟩
  have HC5 := hidE C5
  clear HS1 HC4 C5
  have HS2 := hidE (sick_at HC5.out kB 8 (by decide) (by unfold InR; omega) false (by rw [upd_same]; decide))
  go_wp2_with fail
  refine HS2.out.mono ?_
  rintro e w6 ⟨rfl, C6⟩
  have HC6 := hidE C6
  have c00 := C6.c0
  have c01 := C6.c1
  clear HS2 HC5 C6
  have HP2 := hidE (pick_at HC6.out 6 1 1 (by decide) (by decide) (by unfold InR; omega) (by rw [upd_same]; rfl) (by decide) (by decide) (fun j hj => by
    obtain rfl : j = 0 := by omega
    show sickB (upd _ kB _ kB) 6 = true
    rw [upd_same]; decide) (by
    show sickB (upd _ kB _ kA) 6 = false
    rw [upd_other _ _ kab]; rfl))
  rw [a1] at HP2
  go_wp2_with fail
  refine HP2.out.mono ?_
  rintro e w7 ⟨rfl, C7⟩
  have HC7 := hidE C7
  clear HP2 HC6 c00 c01 C7
  have HG := hidE (good_at HC7.out kB (by decide))
  go_wp2_with fail
  refine HG.out.mono ?_
  rintro e w8 ⟨rfl, C8⟩
  have HB8 := hidE C8.be
  clear HG HC7 C8
  go_wp2
  go_ret
  exact ⟨by simp, HB8.out⟩
end Go.Proofs.Ytlaigjapnmgjeaa
