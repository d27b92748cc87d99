/- Texts that the proof leans on, one behind the other: CnI RqD RqH RqG FsS HtS NmO -/
import Derived.Test.YtemmmdhmkegaaaaGreatDoorCb5
import Derived.Test.YtemmmdhmkegaaaaGreatDoorCb2
import Derived.Test.YtemmmdhmkegaaaaGreatDoorCb4
import Derived.Test.YtemmmdhmkegaaaaGreatDoorCb7
import Derived.Test.YtemmmdhmkegaaaaGreatDoorCb6
import Derived.Test.YtemmmdhmkegaaaaGreatDoorCb3
import Derived.Deep.QuietTactic
import Derived.ProofKit
import Derived.OpenShut
import Derived.Deep.Slices
/- ConnCloses: the walk. -/
namespace Go.Proofs.YtemmmdhmkegaaaaGreatDoor
open Go.RowKit
set_option linter.unusedVariables false

theorem MaxL.pos {w : World} (h : MaxL w) : 0 < w.heap.size := by
  obtain ⟨m, h⟩ := h
  rcases Nat.eq_zero_or_pos w.heap.size with e | e
  · have : w.heap = #[] := Array.eq_empty_of_size_eq_zero e
    simp [World.cell?, this] at h
  · exact e
end Go.Proofs.YtemmmdhmkegaaaaGreatDoor

/- The reference's Body. -/
namespace Go.Proofs.YtemmmdhmkegaaaaGreatDoor
open Go.ChangeShapes Go.WideShapes Go.ChangeAt Go.RowKit
set_option linter.unusedVariables false

def rbodyP (l : List UInt8) (sz : Nat) (coded : Bool) : List UInt8 × Nat × Bool × Int :=
  if coded = true then ((decR 4096 l).1, (decR 4096 l).2.1, decide (0 < (decR 4096 l).2.1), (decR 4096 l).2.2)
  else if l.length < sz then ([], 0, false, 0) else (l.take sz, sz, true, 0)
def BodyR (w : World) (X : List UInt8 × Nat × Bool × Int) (e : Ending) (w' : World) : Prop := ∃ v, e = .returned (.tuple #[v, .int .i64 (X.2.1 : Nat), .bool X.2.2.1, .int .i64 X.2.2.2]) ∧ Own w.heap.size w' v X.1 ∧ Below w.heap.size w w'
theorem src_nil (W : World) (k : Nat) (a : Option Addr) : Src W k (.slice a 0 0) [] := ⟨a, 0, rfl, Nat.le_refl _, Nat.zero_le _, fun h => absurd h (Nat.lt_irrefl _)⟩

set_option maxRecDepth 100000 in
set_option maxHeartbeats 4000000 in
theorem rbody_any (l : List UInt8) (kb c : Nat) (a : Option Addr) (sz : Nat) (coded : Bool) (w : World) (hs : Src w kb (.slice a l.length c) l) (hk : 0 < l.length → kb < w.heap.size) (hlen : l.length ≤ 1099511627776) (hsz : sz ≤ 4096) :
    Calls Tryz.prog 66 #[.slice a l.length c, .int .i64 (sz : Nat), .bool coded] w (BodyR w (rbodyP l sz coded)) := by
  have hln := hs.len
  cases coded
  · by_cases hlt : l.length < sz
    · have HE : Hid (rbodyP l sz false = ([], 0, false, 0)) := by unfold rbodyP; rw [Hid, if_neg (by decide), if_pos hlt]
      have hli : (l.length : Int) < (sz : Int) := by omega
      clear hs hk hln
      generalize l.length = n at *
      go_enter Tryz.func66, Tryz.ntmps66
      go_wp2
      refine bodyPost_ret (v := .tuple #[.slice none 0 0, .int .i64 0, .bool false, .int .i64 0]) (by simp [results, Tryz.results66, go_sem]) rfl ?_
      rw [HE.out]
      exact ⟨_, rfl, Own.nil _ _, Below.refl _ _⟩
    · have HE : Hid (rbodyP l sz false = (l.take sz, sz, true, 0)) := by unfold rbodyP; rw [Hid, if_neg (by decide), if_neg hlt]
      have hli : ¬ (l.length : Int) < (sz : Int) := by omega
      have C0 : Below w.heap.size w (w.alloc (.cells #[] 5)) := (Below.refl _ _).alloc (Nat.le_refl _) _
      have S1 : Src w kb (.slice a sz c) (l.take sz) := hs.take (by omega)
      have hl2 : (l.take sz).length = sz := by rw [List.length_take]; omega
      have HJ : Hid (Calls Tryz.prog 44 #[.slice a sz c, .slice (some ⟨w.heap.size, 0, none⟩) 0 0] (w.alloc (.cells #[] 5)) fun e w' => ∃ v', e = .returned v' ∧ Own w.heap.size w' v' (l.take sz) ∧ Below w.heap.size w w') := by
        refine (join_any (l.take sz) [] kb w.heap.size (.slice a sz c) _ _ (S1.keep (fun h => hk (by rw [hl2] at h; omega)) C0) (fun h => Nat.lt_of_lt_of_le (hk (by rw [hl2] at h; omega)) C0.size) (src_nil _ _ _) (fun h => absurd h (Nat.lt_irrefl _)) (by rw [hl2]; simp; omega)).mono ?_
        rintro e w' ⟨v', he, hO, hB⟩
        rw [List.append_nil] at hO
        exact ⟨v', he, hO.mono C0.size, C0.trans (hB.mono C0.size)⟩
      have hc2 : l.length ≤ c := hln.2.1
      have hc3 : c ≤ maxLen := hln.2.2
      unfold maxLen at hc3
      clear hs hk S1 C0 hl2 hln
      generalize l.length = n at *
      go_enter Tryz.func66, Tryz.ntmps66
      go_wp2_with fail
      refine HJ.out.mono ?_
      rintro e w1 ⟨v1, rfl, O1, B1⟩
      go_wp2
      refine bodyPost_ret (v := .tuple #[v1, .int .i64 (sz : Nat), .bool true, .int .i64 0]) (by simp [results, Tryz.results66, go_sem]) rfl ?_
      rw [HE.out]
      exact ⟨_, rfl, O1, B1⟩
  · have HE : Hid (rbodyP l sz true = ((decR 4096 l).1, (decR 4096 l).2.1, decide (0 < (decR 4096 l).2.1), (decR 4096 l).2.2)) := by unfold rbodyP; rw [Hid, if_pos rfl]
    have HD : Hid (Calls Tryz.prog 92 #[.slice a l.length c, .int .i64 4096] w (DecQ w (decR 4096 l))) := rdecode_nat l kb _ 4096 (by decide) w hs hk hlen
    clear hs hk hln
    generalize l.length = n at *
    generalize decR 4096 l = X at *
    obtain ⟨X1, X2, X3⟩ := X
    simp only at HE
    go_enter Tryz.func66, Tryz.ntmps66
    go_wp2_with fail
    refine HD.out.mono ?_
    rintro e w1 ⟨v1, rfl, O1, B1⟩
    go_wp2
    refine bodyPost_ret (v := .tuple #[v1, .int .i64 (X2 : Nat), .bool (decide ((0 : Int) < (X2 : Int))), .int .i64 X3]) (by simp [results, Tryz.results66, go_sem]) rfl ?_
    rw [HE.out, int_pos]
    exact ⟨_, rfl, O1, B1⟩

theorem decL_st : ∀ (f m : Nat) (l : List UInt8), ¬ (decL f m l).2.1 = 0 → (decL f m l).2.2 = 0 := by
  intro f m l h
  cases f with
  | zero => exact absurd rfl h
  | succ f =>
    unfold decL at h ⊢
    split at h
    · exact absurd rfl h
    · rename_i k1
      rw [if_neg k1]
      split at h
      · rename_i k2
        rw [if_pos k2]
        unfold plusD at h ⊢
        split at h
        · exact absurd rfl h
        · rename_i k3; rw [if_neg k3]
      · rename_i k2
        rw [if_neg k2]
        unfold plusD at h ⊢
        split at h
        · exact absurd rfl h
        · rename_i k3; rw [if_neg k3]
theorem body_ref (b : List UInt8) (n sz : Nat) (coded : Bool) (hn : 0 < n) (hl : n ≤ b.length) : bodyQ b n (sz : Int) coded = if (rbodyP (b.drop n) sz coded).2.2.1 = true then ((rbodyP (b.drop n) sz coded).1, n + (rbodyP (b.drop n) sz coded).2.1, 0) else ([], 0, (rbodyP (b.drop n) sz coded).2.2.2) := by
  unfold bodyQ rbodyP
  cases coded
  · simp only [Bool.false_eq_true, if_false, List.length_drop]
    by_cases h : b.length - n < sz
    · rw [if_pos (show ((b.length - n : Nat) : Int) < (sz : Int) by omega), if_pos h]; rfl
    · rw [if_neg (show ¬ ((b.length - n : Nat) : Int) < (sz : Int) by omega), if_neg h]; rfl
  · simp only [if_true]
    by_cases h : (decR 4096 (b.drop n)).2.1 = 0
    · rw [if_pos h, decide_eq_false (by omega), if_neg (by decide)]
    · rw [if_neg h, decide_eq_true (by omega), if_pos rfl]
theorem body_whole (l : List UInt8) (sz : Nat) (coded : Bool) (h : (rbodyP l sz coded).2.2.1 = true) : (rbodyP l sz coded).2.2.2 = 0 := by
  unfold rbodyP at h ⊢
  cases coded
  · simp only [Bool.false_eq_true, if_false]
    split <;> rfl
  · simp only [if_true] at h ⊢
    exact decL_st _ _ _ (by have := of_decide_eq_true h; unfold decR at this; omega)
end Go.Proofs.YtemmmdhmkegaaaaGreatDoor

/- The reference's Waits. -/
namespace Go.Proofs.YtemmmdhmkegaaaaGreatDoor
open Go.ChangeShapes Go.WideShapes Go.ChangeAt Go.RowKit
set_option linter.unusedVariables false

def lExp : ByteArray := ⟨#[101, 120, 112, 101, 99, 116]⟩
theorem headQ_minor (b : List UInt8) (h : ¬ (headQ b).n = 0) : (headQ b).minor = 0 ∨ (headQ b).minor = 1 := by
  rw [headQ_open] at h ⊢
  generalize rlines b = X at *
  obtain ⟨ss, n, code⟩ := X
  cases ss with
  | nil => exact absurd rfl h
  | cons s ss =>
    have e : openQ (s :: ss, n, code) = openK (rqP s) (fldsP ss 40) n code := rfl
    rw [e] at h ⊢
    unfold openK at h ⊢
    split at h
    · rename_i k1
      rw [if_pos k1]
      split at h
      · rename_i k2
        rw [if_pos k2]
        split at h
        · exact absurd rfl h
        · rename_i k3
          rw [if_neg k3]
          split at h
          · rename_i k4
            rw [if_pos k4]
            exact (req_back k1).2.1
          · exact absurd rfl h
      · exact absurd rfl h
    · exact absurd rfl h

set_option maxRecDepth 100000 in
set_option maxHeartbeats 8000000 in
theorem r8waits_any (b : List UInt8) (kb c : Nat) (a : Option Addr) (w : World) (hs : Src w kb (.slice a b.length c) b) (hk : 0 < b.length → kb < w.heap.size) (hlen : b.length ≤ 1099511627776) :
    Calls Tryz.prog 53 #[.slice a b.length c] w fun e w' => e = .returned (.bool (waitsQ b)) ∧ Below w.heap.size w w' := by
  have HOP : Hid (Calls Tryz.prog 65 #[.slice a b.length c] w (OpenR w (headQ b))) := ropened_any b kb c a w hs hk
  have HOK : Hid (HdOk b.length (headQ b)) := headQ_ok b
  have HMI : Hid (¬ (headQ b).n = 0 → (headQ b).minor = 0 ∨ (headQ b).minor = 1) := headQ_minor b
  obtain ⟨sz, hsz⟩ : ∃ sz : Nat, (reqF (headQ b).fs (headQ b).minor).1 = (sz : Int) := ⟨(reqF (headQ b).fs (headQ b).minor).1.toNat, by have := (told_nn (headQ b).fs (headQ b).minor).1; unfold reqF; simp only; omega⟩
  have hszb : sz ≤ 4096 := by have k := (told_nn (headQ b).fs (headQ b).minor).2; unfold reqF at hsz; simp only at hsz; omega
  have hQ : reqQ b = if (headQ b).n = 0 then rdNo (headQ b).st else rdOf (headQ b) (bodyOf (headQ b) b) := rfl
  have hWQ : waitsQ b = if (headQ b).n = 0 then false else if ¬ (headQ b).minor = 1 then false else if hasF (headQ b).fs tExp t100 = false then false else (decide ((reqQ b).n = 0) && decide ((reqQ b).st = 0)) := rfl
  have HL := hs.len
  have hc2 : b.length ≤ c := HL.2.1
  have hc3 : c ≤ maxLen := HL.2.2
  unfold maxLen at hc3
  have HHA : Hid (∀ (W : World) (fa : Option Addr) (fc : Nat), Fds W.heap.size W (.slice fa (headQ b).fs.length fc) (headQ b).fs → Calls Tryz.prog 72 #[.slice fa (headQ b).fs.length fc, .string ⟨#[101, 120, 112, 101, 99, 116]⟩, .string ⟨#[49, 48, 48, 45, 99, 111, 110, 116, 105, 110, 117, 101]⟩] W fun e w' => e = .returned (.bool (hasF (headQ b).fs tExp t100)) ∧ Below W.heap.size W w') := fun W fa fc F => by
    have k := rhas_any (headQ b).fs fa fc lExp t100 W F (bd_big HOK.out.bd) (by decide) (by decide) (by have := HOK.out.len; omega)
    rw [hasF_congr (show foldS lExp = foldS tExp by decide +kernel)] at k
    exact k
  by_cases h0 : (headQ b).n = 0
  · have HE : Hid (waitsQ b = false) := by rw [Hid, hWQ, if_pos h0]
    unfold OpenR opV at HOP
    rw [h0] at HOP
    clear hs hk hQ hWQ hsz hszb HL HOK h0 HHA HMI
    generalize waitsQ b = Q at *
    generalize opS (headQ b) = sc at *
    generalize headQ b = H at *
    obtain ⟨m, t, mi, fs, n, st⟩ := H
    simp only at HOP
    generalize b.length = bl at *
    go_enter Tryz.func53, Tryz.ntmps53
    go_wp2_with fail
    refine HOP.out.mono ?_
    rintro e w1 ⟨fa, fc, rfl, O1, B1⟩
    have B2 := B1.alloc B1.size (.cells #[.string m, .string t, .int .i64 mi, .slice fa fs.length fc, .slice none 0 0] 43)
    clear HOP O1 B1
    go_wp2
    go_ret
    exact ⟨ret_bool HE.out.symm, B2⟩
  · have hop : opS (headQ b) = ((sz : Int), (reqF (headQ b).fs (headQ b).minor).2.1) := by unfold opS; rw [if_neg h0, hsz]
    have hnle := HOK.out.le.1
    have HY : Hid (reqQ b = if (rbodyP (b.drop (headQ b).n) sz (reqF (headQ b).fs (headQ b).minor).2.1).2.2.1 = true then ⟨(headQ b).m, (headQ b).t, (headQ b).minor, (headQ b).fs, (rbodyP (b.drop (headQ b).n) sz (reqF (headQ b).fs (headQ b).minor).2.1).1, (headQ b).n + (rbodyP (b.drop (headQ b).n) sz (reqF (headQ b).fs (headQ b).minor).2.1).2.1, 0⟩ else rdNo (bodySt (rbodyP (b.drop (headQ b).n) sz (reqF (headQ b).fs (headQ b).minor).2.1).2.2.2)) := by
      rw [Hid, hQ, if_neg h0]
      unfold bodyOf
      rw [hsz, body_ref b _ sz _ (by omega) hnle]
      unfold rdOf
      split
      · rename_i k
        rw [if_neg (by simp only; omega)]
      · rename_i k
        rw [if_pos rfl]
    have HCE : Hid (∀ (W : World) (a' : Option Addr), Below w.heap.size w W → ((headQ b).n < c → a' = a.map (fun x => x.add (headQ b).n)) → Src W kb (.slice a' (b.length - (headQ b).n) (c - (headQ b).n)) (b.drop (headQ b).n)) := fun W a' hB ha => (hs.keep hk hB).cut (m := (headQ b).n) hnle ha
    have HBD : Hid (∀ (W : World) (v : Value), Below w.heap.size w W → Src W kb v (b.drop (headQ b).n) → Calls Tryz.prog 66 #[v, .int .i64 (sz : Nat), .bool (reqF (headQ b).fs (headQ b).minor).2.1] W (BodyR W (rbodyP (b.drop (headQ b).n) sz (reqF (headQ b).fs (headQ b).minor).2.1))) := fun W v hB S1 => by
      have hl : (b.drop (headQ b).n).length = b.length - (headQ b).n := List.length_drop
      obtain ⟨a1, c1, rfl, _⟩ := id S1
      exact rbody_any _ kb _ _ sz _ W S1 (fun q => Nat.lt_of_lt_of_le (hk (by omega)) hB.size) (by omega) hszb
    rw [if_neg h0] at hWQ
    unfold OpenR opV at HOP
    rw [hop] at HOP
    have HWQ : Hid _ := hWQ
    clear hs hk hQ hop hsz hszb HL HOK hWQ
    generalize b.drop (headQ b).n = bd at *
    generalize rbodyP bd sz (reqF (headQ b).fs (headQ b).minor).2.1 = Y at *
    obtain ⟨Y1, Y2, Y3, Y4⟩ := Y
    generalize (reqF (headQ b).fs (headQ b).minor).2.1 = cd at *
    generalize waitsQ b = WQ at *
    generalize reqQ b = Q at *
    generalize headQ b = H at *
    obtain ⟨m, t, mi, fs, n, st⟩ := H
    simp only at HOP HY HBD HCE hnle h0 HWQ HHA HMI
    generalize hasF fs tExp t100 = hx at *
    generalize b.length = bl at *
    have h0' : ¬ ((n : Nat) : Int) = 0 := by omega
    have h0'' : (((n : Nat) : Int) == 0) = false := by simpa using h0'
    have hmi := HMI.out h0
    rcases hmi with rfl | rfl
    · have HE : Hid (WQ = false) := by rw [Hid, HWQ.out, if_pos (by decide)]
      clear HY HBD HHA HMI HWQ
      go_enter Tryz.func53, Tryz.ntmps53
      go_wp2_with fail
      refine HOP.out.mono ?_
      rintro e w1 ⟨fa, fc, rfl, O1, B1⟩
      have hr2 := tblk_new w1 (.cells #[.string m, .string t, .int .i64 0, .slice fa fs.length fc, .slice none 0 0] 43)
      have B2 := B1.alloc B1.size (.cells #[.string m, .string t, .int .i64 0, .slice fa fs.length fc, .slice none 0 0] 43)
      have d2 := tblk_cell (i := 2) hr2 rfl
      clear HOP O1 B1 hr2
      go_wp2
      go_ret
      exact ⟨ret_bool HE.out.symm, B2⟩
    · rw [if_neg (by decide)] at HWQ
      go_enter Tryz.func53, Tryz.ntmps53
      go_wp2_with fail
      refine HOP.out.mono ?_
      rintro e w1 ⟨fa, fc, rfl, O1, B1⟩
      have hr2 := tblk_new w1 (.cells #[.string m, .string t, .int .i64 1, .slice fa fs.length fc, .slice none 0 0] 43)
      have B2 := B1.alloc B1.size (.cells #[.string m, .string t, .int .i64 1, .slice fa fs.length fc, .slice none 0 0] 43)
      have O2 := O1.keep ((Below.refl _ _).alloc (Nat.le_refl _) (.cells #[.string m, .string t, .int .i64 1, .slice fa fs.length fc, .slice none 0 0] 43))
      have d2 := tblk_cell (i := 2) hr2 rfl
      have d3 := tblk_cell (i := 3) hr2 rfl
      clear HOP O1 B1 hr2 HMI
      go_wp2_with fail
      refine (HHA.out _ fa fc O2.fds).mono ?_
      rintro e w3 ⟨rfl, B3⟩
      have B4 := B2.trans (B3.mono B2.size)
      clear d2 d3 B2 B3 O2 HHA
      generalize w1.heap.size = p at *
      cases hx
      · have HE : Hid (WQ = false) := by rw [Hid, HWQ.out, if_pos rfl]
        clear HY HBD HWQ
        go_wp2
        go_ret
        exact ⟨ret_bool HE.out.symm, B4⟩
      · rw [if_neg (by decide)] at HWQ
        go_wp2_with fail
        all_goals
          have HBE := HBD.out w3
          have HBD : Hid (∀ v : Value, Src w3 kb v bd → Calls Tryz.prog 66 #[v, .int .i64 (sz : Nat), .bool cd] w3 (BodyR w3 (Y1, Y2, Y3, Y4))) := fun v h => HBE v B4 h
          have hcell : Hid (∀ a' : Option Addr, (n < c → a' = a.map (fun x => x.add n)) → Src w3 kb (.slice a' (bl - n) (c - n)) bd) := fun a' h => HCE.out w3 a' B4 h
          clear HBE
          unfold BodyR at HBD
          refine (HBD.out _ (by first | (have hx := hcell.out a (fun h => by omega); rw [show c - n = 0 by omega] at hx; exact hx) | exact hcell.out _ (fun _ => rfl) | exact hcell.out _ (fun h => if_neg (by omega)) | exact hcell.out _ (fun h => by omega))).mono ?_
          rintro e w5 ⟨v5, rfl, P5, B5⟩
          obtain ⟨ad5, c5, rfl, _⟩ := P5.form
          have D5 := B4.trans (B5.mono B4.size)
          clear P5 B5 B4 HBD
          generalize Y1.length = yl at *
          cases Y3
          · have HE : Hid (WQ = decide (Y4 = 0)) := by
              rw [Hid, HWQ.out, HY.out, if_neg (by decide)]
              unfold rdNo bodySt
              by_cases k : Y4 = 0
              · simp [k]
              · simp only [if_neg k]
                split <;> simp [k]
            clear HY HWQ
            go_wp2
            go_ret
            exact ⟨ret_bool (by (rw [HE.out]) <;> exact eq_dec _ _), D5⟩
          · have HE : Hid (WQ = false) := by
              rw [Hid, HWQ.out, HY.out, if_pos rfl]
              simp only
              rw [decide_eq_false (by omega)]
              rfl
            clear HY HWQ
            go_wp2
            go_ret
            exact ⟨ret_bool HE.out.symm, D5⟩

end Go.Proofs.YtemmmdhmkegaaaaGreatDoor

/- The reference's Request. -/
namespace Go.Proofs.YtemmmdhmkegaaaaGreatDoor
open Go.ChangeShapes Go.WideShapes Go.ChangeAt Go.RowKit
set_option linter.unusedVariables false

theorem rbody_le (l : List UInt8) (sz : Nat) (coded : Bool) : (rbodyP l sz coded).2.1 ≤ l.length := by
  unfold rbodyP
  cases coded
  · simp only [Bool.false_eq_true, if_false]
    split
    · exact Nat.zero_le _
    · simp only; omega
  · simp only [if_true]
    exact decR_le _ _

set_option maxRecDepth 100000 in
set_option maxHeartbeats 8000000 in
theorem r8req_any (b : List UInt8) (kb c : Nat) (a : Option Addr) (w : World) (hs : Src w kb (.slice a b.length c) b) (hk : 0 < b.length → kb < w.heap.size) (hlen : b.length ≤ 1099511627776) :
    Calls Tryz.prog 46 #[.slice a b.length c] w (ReqR w (reqQ b)) := by
  have U0 : Below w.heap.size w (w.alloc (.cells #[.string ⟨#[]⟩, .string ⟨#[]⟩, .int .i64 0, .slice none 0 0, .slice none 0 0] 43)) := (Below.refl _ _).alloc (Nat.le_refl _) _
  have HOP : Hid (Calls Tryz.prog 65 #[.slice a b.length c] (w.alloc (.cells #[.string ⟨#[]⟩, .string ⟨#[]⟩, .int .i64 0, .slice none 0 0, .slice none 0 0] 43)) fun e w' => ∃ fa fc, e = .returned (opV (headQ b) fa fc) ∧ OwnF (w.heap.size + 1) w' (.slice fa (headQ b).fs.length fc) (headQ b).fs ∧ w.heap.size + 1 ≤ w'.heap.size ∧ Below w.heap.size w w' ∧ w'.heap[w.heap.size]? = some (.cells #[.string ⟨#[]⟩, .string ⟨#[]⟩, .int .i64 0, .slice none 0 0, .slice none 0 0] 43)) := by
    refine (ropened_any b kb c a _ (hs.keep hk U0) (fun q => Nat.lt_of_lt_of_le (hk q) U0.size)).mono ?_
    rintro e w' ⟨fa, fc, he, hO, hB⟩
    have e1 : (w.alloc (.cells #[.string ⟨#[]⟩, .string ⟨#[]⟩, .int .i64 0, .slice none 0 0, .slice none 0 0] 43)).heap.size = w.heap.size + 1 := by simp
    rw [e1] at hO
    have hsz := hB.size
    rw [e1] at hsz
    exact ⟨fa, fc, he, hO, hsz, U0.trans (hB.mono (by simp)), tblk_below (tblk_new _ _) hB⟩
  have HOK : Hid (HdOk b.length (headQ b)) := headQ_ok b
  obtain ⟨sz, hsz⟩ : ∃ sz : Nat, (reqF (headQ b).fs (headQ b).minor).1 = (sz : Int) := ⟨(reqF (headQ b).fs (headQ b).minor).1.toNat, by have := (told_nn (headQ b).fs (headQ b).minor).1; unfold reqF; simp only; omega⟩
  have hszb : sz ≤ 4096 := by have k := (told_nn (headQ b).fs (headQ b).minor).2; unfold reqF at hsz; simp only at hsz; omega
  have hQ : reqQ b = if (headQ b).n = 0 then rdNo (headQ b).st else rdOf (headQ b) (bodyOf (headQ b) b) := rfl
  have HL := hs.len
  have hc2 : b.length ≤ c := HL.2.1
  have hc3 : c ≤ maxLen := HL.2.2
  unfold maxLen at hc3
  by_cases h0 : (headQ b).n = 0
  · have HE : Hid (reqQ b = rdNo (headQ b).st) := by rw [Hid, hQ, if_pos h0]
    have hop : opS (headQ b) = (0, false) := by unfold opS; rw [if_pos h0]
    unfold opV at HOP
    rw [hop, h0] at HOP
    clear hs hk U0 hQ hop hsz hszb HL HOK h0
    generalize reqQ b = Q at *
    generalize headQ b = H at *
    obtain ⟨m, t, mi, fs, n, st⟩ := H
    simp only at HOP HE
    generalize b.length = bl at *
    go_enter Tryz.func46, Tryz.ntmps46
    go_wp2_with fail
    refine HOP.out.mono ?_
    rintro e w1 ⟨fa, fc, rfl, O1, hs1, B1, hg1⟩
    clear HOP O1 hs1
    have B2 := B1.alloc B1.size (.cells #[.string m, .string t, .int .i64 mi, .slice fa fs.length fc, .slice none 0 0] 43)
    have hg2 := tblk_below hg1 ((Below.refl _ _).alloc (Nat.le_refl _) (.cells #[.string m, .string t, .int .i64 mi, .slice fa fs.length fc, .slice none 0 0] 43))
    clear B1 hg1
    have HBZ : Hid _ := five_below (.string ⟨#[]⟩) (.string ⟨#[]⟩) (.int .i64 0) (.slice none 0 0) (.slice none 0 0) B2 (Nat.le_refl _)
    unfold five at HBZ
    have HW := five_cells hg2 (.string ⟨#[]⟩) (.string ⟨#[]⟩) (.int .i64 0) (.slice none 0 0) (.slice none 0 0)
    have a0 := tblk_cell (i := 0) hg2 rfl
    have z0 := lblk_z (i := 0) hg2
    have a1 := tblk_cell (i := 1) hg2 rfl
    have z1 := lblk_z (i := 1) hg2
    have a2 := tblk_cell (i := 2) hg2 rfl
    have z2 := lblk_z (i := 2) hg2
    have a3 := tblk_cell (i := 3) hg2 rfl
    have z3 := lblk_z (i := 3) hg2
    have a4 := tblk_cell (i := 4) hg2 rfl
    have z4 := lblk_z (i := 4) hg2
    have r0 := tblk_cell (i := 0) HW rfl
    have r1 := tblk_cell (i := 1) HW rfl
    have r2 := tblk_cell (i := 2) HW rfl
    have r3 := tblk_cell (i := 3) HW rfl
    have r4 := tblk_cell (i := 4) HW rfl
    unfold five at r0 r1 r2 r3 r4
    clear HW hg2
    clear B2
    go_wp2
    refine bodyPost_ret (v := .tuple #[.agg #[.string ⟨#[]⟩, .string ⟨#[]⟩, .int .i64 0, .slice none 0 0, .slice none 0 0], .int .i64 0, .int .i64 st]) (by simp [results, Tryz.results46, go_sem, r0, r1, r2, r3, r4]) rfl ?_
    rw [HE.out]
    exact ⟨none, none, 0, 0, rfl, OwnF.nil _ _, Own.nil _ _, HBZ.out⟩
  · have hop : opS (headQ b) = ((sz : Int), (reqF (headQ b).fs (headQ b).minor).2.1) := by unfold opS; rw [if_neg h0, hsz]
    have hnle := HOK.out.le.1
    have HY : Hid (reqQ b = if (rbodyP (b.drop (headQ b).n) sz (reqF (headQ b).fs (headQ b).minor).2.1).2.2.1 = true then ⟨(headQ b).m, (headQ b).t, (headQ b).minor, (headQ b).fs, (rbodyP (b.drop (headQ b).n) sz (reqF (headQ b).fs (headQ b).minor).2.1).1, (headQ b).n + (rbodyP (b.drop (headQ b).n) sz (reqF (headQ b).fs (headQ b).minor).2.1).2.1, 0⟩ else rdNo (bodySt (rbodyP (b.drop (headQ b).n) sz (reqF (headQ b).fs (headQ b).minor).2.1).2.2.2)) := by
      rw [Hid, hQ, if_neg h0]
      unfold bodyOf
      rw [hsz, body_ref b _ sz _ (by omega) hnle]
      unfold rdOf
      split
      · rename_i k
        rw [if_neg (by simp only; omega)]
      · rename_i k
        rw [if_pos rfl]
    have HYB : Hid ((rbodyP (b.drop (headQ b).n) sz (reqF (headQ b).fs (headQ b).minor).2.1).2.1 ≤ b.length) := by rw [Hid]; have := rbody_le (b.drop (headQ b).n) sz (reqF (headQ b).fs (headQ b).minor).2.1; rw [List.length_drop] at this; omega
    have HWH : Hid ((rbodyP (b.drop (headQ b).n) sz (reqF (headQ b).fs (headQ b).minor).2.1).2.2.1 = true → (rbodyP (b.drop (headQ b).n) sz (reqF (headQ b).fs (headQ b).minor).2.1).2.2.2 = 0) := body_whole _ _ _
    have HCE : Hid (∀ (W : World) (a' : Option Addr), Below w.heap.size w W → ((headQ b).n < c → a' = a.map (fun x => x.add (headQ b).n)) → Src W kb (.slice a' (b.length - (headQ b).n) (c - (headQ b).n)) (b.drop (headQ b).n)) := fun W a' hB ha => (hs.keep hk hB).cut (m := (headQ b).n) hnle ha
    have HBD : Hid (∀ (W : World) (v : Value), Below w.heap.size w W → Src W kb v (b.drop (headQ b).n) → Calls Tryz.prog 66 #[v, .int .i64 (sz : Nat), .bool (reqF (headQ b).fs (headQ b).minor).2.1] W (BodyR W (rbodyP (b.drop (headQ b).n) sz (reqF (headQ b).fs (headQ b).minor).2.1))) := fun W v hB S1 => by
      have hl : (b.drop (headQ b).n).length = b.length - (headQ b).n := List.length_drop
      obtain ⟨a1, c1, rfl, _⟩ := id S1
      exact rbody_any _ kb _ _ sz _ W S1 (fun q => Nat.lt_of_lt_of_le (hk (by omega)) hB.size) (by omega) hszb
    unfold opV at HOP
    rw [hop] at HOP
    clear hs hk U0 hQ hop hsz hszb HL HOK
    generalize b.drop (headQ b).n = bd at *
    generalize rbodyP bd sz (reqF (headQ b).fs (headQ b).minor).2.1 = Y at *
    obtain ⟨Y1, Y2, Y3, Y4⟩ := Y
    generalize (reqF (headQ b).fs (headQ b).minor).2.1 = cd at *
    generalize reqQ b = Q at *
    generalize headQ b = H at *
    obtain ⟨m, t, mi, fs, n, st⟩ := H
    simp only at HOP HY HWH HYB HBD HCE hnle h0
    generalize b.length = bl at *
    have h0' : ¬ ((n : Nat) : Int) = 0 := by omega
    have h0'' : (((n : Nat) : Int) == 0) = false := by simpa using h0'
    cases Y3
    · have HE0 : Hid (Q = rdNo (bodySt Y4)) := by rw [Hid, HY.out, if_neg (by decide)]
      clear HY HWH HYB h0
      go_enter Tryz.func46, Tryz.ntmps46
      go_wp2_with fail
      refine HOP.out.mono ?_
      rintro e w1 ⟨fa, fc, rfl, O1, hs1, B1, hg1⟩
      clear HOP O1 hs1
      have B2 := B1.alloc B1.size (.cells #[.string m, .string t, .int .i64 mi, .slice fa fs.length fc, .slice none 0 0] 43)
      have hg2 := tblk_below hg1 ((Below.refl _ _).alloc (Nat.le_refl _) (.cells #[.string m, .string t, .int .i64 mi, .slice fa fs.length fc, .slice none 0 0] 43))
      clear B1 hg1
      go_wp2_with fail
      all_goals
        generalize w1.alloc (.cells #[.string m, .string t, .int .i64 mi, .slice fa fs.length fc, .slice none 0 0] 43) = w2 at *
        have HBE := HBD.out w2
        have HBD : Hid (∀ v : Value, Src w2 kb v bd → Calls Tryz.prog 66 #[v, .int .i64 (sz : Nat), .bool cd] w2 (BodyR w2 (Y1, Y2, false, Y4))) := fun v h => HBE v B2 h
        have hcell : Hid (∀ a' : Option Addr, (n < c → a' = a.map (fun x => x.add n)) → Src w2 kb (.slice a' (bl - n) (c - n)) bd) := fun a' h => HCE.out w2 a' B2 h
        clear HBE
        unfold BodyR at HBD
        refine (HBD.out _ (by first | (have hx := hcell.out a (fun h => by omega); rw [show c - n = 0 by omega] at hx; exact hx) | exact hcell.out _ (fun _ => rfl) | exact hcell.out _ (fun h => if_neg (by omega)) | exact hcell.out _ (fun h => by omega))).mono ?_
        rintro e w3 ⟨v3, rfl, P3, B3⟩
        obtain ⟨ad3, c3, rfl, _⟩ := P3.form
        have D3 := B2.trans (B3.mono B2.size)
        have hg3 := tblk_below hg2 B3
        clear P3 B3 B2 hg2 HBD
        generalize Y1.length = yl at *
        by_cases h2 : Y4 = 2
        · subst h2
          have HE : Hid (Q = rdNo 413) := HE0.out
          clear HE0
          have HBZ : Hid _ := five_below (.string ⟨#[]⟩) (.string ⟨#[]⟩) (.int .i64 0) (.slice none 0 0) (.slice none 0 0) D3 (Nat.le_refl _)
          unfold five at HBZ
          have HW := five_cells hg3 (.string ⟨#[]⟩) (.string ⟨#[]⟩) (.int .i64 0) (.slice none 0 0) (.slice none 0 0)
          have a0 := tblk_cell (i := 0) hg3 rfl
          have z0 := lblk_z (i := 0) hg3
          have a1 := tblk_cell (i := 1) hg3 rfl
          have z1 := lblk_z (i := 1) hg3
          have a2 := tblk_cell (i := 2) hg3 rfl
          have z2 := lblk_z (i := 2) hg3
          have a3 := tblk_cell (i := 3) hg3 rfl
          have z3 := lblk_z (i := 3) hg3
          have a4 := tblk_cell (i := 4) hg3 rfl
          have z4 := lblk_z (i := 4) hg3
          have r0 := tblk_cell (i := 0) HW rfl
          have r1 := tblk_cell (i := 1) HW rfl
          have r2 := tblk_cell (i := 2) HW rfl
          have r3 := tblk_cell (i := 3) HW rfl
          have r4 := tblk_cell (i := 4) HW rfl
          unfold five at r0 r1 r2 r3 r4
          clear HW hg3
          clear D3
          go_wp2
          refine bodyPost_ret (v := .tuple #[.agg #[.string ⟨#[]⟩, .string ⟨#[]⟩, .int .i64 0, .slice none 0 0, .slice none 0 0], .int .i64 0, .int .i64 413]) (by simp [results, Tryz.results46, go_sem, r0, r1, r2, r3, r4]) rfl ?_
          rw [HE.out]
          exact ⟨none, none, 0, 0, rfl, OwnF.nil _ _, Own.nil _ _, HBZ.out⟩
        · have h2b : (Y4 == 2) = false := by simpa using h2
          by_cases h3 : Y4 = 0
          · subst h3
            have HE : Hid (Q = rdNo 0) := HE0.out
            clear HE0
            have HBZ : Hid _ := five_below (.string ⟨#[]⟩) (.string ⟨#[]⟩) (.int .i64 0) (.slice none 0 0) (.slice none 0 0) D3 (Nat.le_refl _)
            unfold five at HBZ
            have HW := five_cells hg3 (.string ⟨#[]⟩) (.string ⟨#[]⟩) (.int .i64 0) (.slice none 0 0) (.slice none 0 0)
            have a0 := tblk_cell (i := 0) hg3 rfl
            have z0 := lblk_z (i := 0) hg3
            have a1 := tblk_cell (i := 1) hg3 rfl
            have z1 := lblk_z (i := 1) hg3
            have a2 := tblk_cell (i := 2) hg3 rfl
            have z2 := lblk_z (i := 2) hg3
            have a3 := tblk_cell (i := 3) hg3 rfl
            have z3 := lblk_z (i := 3) hg3
            have a4 := tblk_cell (i := 4) hg3 rfl
            have z4 := lblk_z (i := 4) hg3
            have r0 := tblk_cell (i := 0) HW rfl
            have r1 := tblk_cell (i := 1) HW rfl
            have r2 := tblk_cell (i := 2) HW rfl
            have r3 := tblk_cell (i := 3) HW rfl
            have r4 := tblk_cell (i := 4) HW rfl
            unfold five at r0 r1 r2 r3 r4
            clear HW hg3
            clear D3
            go_wp2
            refine bodyPost_ret (v := .tuple #[.agg #[.string ⟨#[]⟩, .string ⟨#[]⟩, .int .i64 0, .slice none 0 0, .slice none 0 0], .int .i64 0, .int .i64 0]) (by simp [results, Tryz.results46, go_sem, r0, r1, r2, r3, r4]) rfl ?_
            rw [HE.out]
            exact ⟨none, none, 0, 0, rfl, OwnF.nil _ _, Own.nil _ _, HBZ.out⟩
          · have h3b : (Y4 != 0) = true := by simpa using h3
            have HE : Hid (Q = rdNo 400) := by
              rw [Hid, HE0.out]
              unfold bodySt
              rw [if_neg h3, if_neg h2]
            clear HE0
            have HBZ : Hid _ := five_below (.string ⟨#[]⟩) (.string ⟨#[]⟩) (.int .i64 0) (.slice none 0 0) (.slice none 0 0) D3 (Nat.le_refl _)
            unfold five at HBZ
            have HW := five_cells hg3 (.string ⟨#[]⟩) (.string ⟨#[]⟩) (.int .i64 0) (.slice none 0 0) (.slice none 0 0)
            have a0 := tblk_cell (i := 0) hg3 rfl
            have z0 := lblk_z (i := 0) hg3
            have a1 := tblk_cell (i := 1) hg3 rfl
            have z1 := lblk_z (i := 1) hg3
            have a2 := tblk_cell (i := 2) hg3 rfl
            have z2 := lblk_z (i := 2) hg3
            have a3 := tblk_cell (i := 3) hg3 rfl
            have z3 := lblk_z (i := 3) hg3
            have a4 := tblk_cell (i := 4) hg3 rfl
            have z4 := lblk_z (i := 4) hg3
            have r0 := tblk_cell (i := 0) HW rfl
            have r1 := tblk_cell (i := 1) HW rfl
            have r2 := tblk_cell (i := 2) HW rfl
            have r3 := tblk_cell (i := 3) HW rfl
            have r4 := tblk_cell (i := 4) HW rfl
            unfold five at r0 r1 r2 r3 r4
            clear HW hg3
            clear D3
            go_wp2
            refine bodyPost_ret (v := .tuple #[.agg #[.string ⟨#[]⟩, .string ⟨#[]⟩, .int .i64 0, .slice none 0 0, .slice none 0 0], .int .i64 0, .int .i64 400]) (by simp [results, Tryz.results46, go_sem, r0, r1, r2, r3, r4]) rfl ?_
            rw [HE.out]
            exact ⟨none, none, 0, 0, rfl, OwnF.nil _ _, Own.nil _ _, HBZ.out⟩
    · have hy4 := HWH.out rfl
      subst hy4
      have HE : Hid (Q = ⟨m, t, mi, fs, Y1, n + Y2, 0⟩) := by rw [Hid, HY.out, if_pos rfl]
      have hyb : Y2 ≤ bl := HYB.out
      clear HY HWH HYB h0
      go_enter Tryz.func46, Tryz.ntmps46
      go_wp2_with fail
      refine HOP.out.mono ?_
      rintro e w1 ⟨fa, fc, rfl, O1, hs1, B1, hg1⟩
      clear HOP
      have B2 := B1.alloc B1.size (.cells #[.string m, .string t, .int .i64 mi, .slice fa fs.length fc, .slice none 0 0] 43)
      have U2 : Below w1.heap.size w1 (w1.alloc (.cells #[.string m, .string t, .int .i64 mi, .slice fa fs.length fc, .slice none 0 0] 43)) := (Below.refl _ _).alloc (Nat.le_refl _) _
      have hg2 := tblk_below hg1 U2
      have hr2 := tblk_new w1 (.cells #[.string m, .string t, .int .i64 mi, .slice fa fs.length fc, .slice none 0 0] 43)
      have O2 := O1.keep U2
      have hsp : w.heap.size < w1.heap.size := by omega
      have hkw0 : ∀ k, k < w1.heap.size → (w1.alloc (.cells #[.string m, .string t, .int .i64 mi, .slice fa fs.length fc, .slice none 0 0] 43)).heap[k]? = w1.heap[k]? := fun k hk => U2.block k hk
      clear B1 hg1 U2 hs1
      go_wp2_with fail
      all_goals
        generalize w1.alloc (.cells #[.string m, .string t, .int .i64 mi, .slice fa fs.length fc, .slice none 0 0] 43) = w2 at *
        generalize hpd : w1.heap.size = p at *
        have HPD : Hid (w1.heap.size = p) := hpd
        clear hpd
        have hp2 : p < w2.heap.size := heap_lt hr2
        have HBE := HBD.out w2
        have HBD : Hid (∀ v : Value, Src w2 kb v bd → Calls Tryz.prog 66 #[v, .int .i64 (sz : Nat), .bool cd] w2 (BodyR w2 (Y1, Y2, true, 0))) := fun v h => HBE v B2 h
        have hcell : Hid (∀ a' : Option Addr, (n < c → a' = a.map (fun x => x.add n)) → Src w2 kb (.slice a' (bl - n) (c - n)) bd) := fun a' h => HCE.out w2 a' B2 h
        clear HBE
        unfold BodyR at HBD
        refine (HBD.out _ (by first | (have hx := hcell.out a (fun h => by omega); rw [show c - n = 0 by omega] at hx; exact hx) | exact hcell.out _ (fun _ => rfl) | exact hcell.out _ (fun h => if_neg (by omega)) | exact hcell.out _ (fun h => by omega))).mono ?_
        rintro e w3 ⟨v3, rfl, P3, B3⟩
        obtain ⟨ad3, c3, rfl, _⟩ := P3.form
        have D3 := B2.trans (B3.mono B2.size)
        have hg3 := tblk_below hg2 B3
        have hr3 := tblk_below hr2 B3
        have hr4 := field4 (v := .slice ad3 Y1.length c3) hr3
        have hg4 : (w3.setCell ⟨p, 4, none⟩ (.slice ad3 Y1.length c3)).heap[w.heap.size]? = some (.cells #[.string ⟨#[]⟩, .string ⟨#[]⟩, .int .i64 0, .slice none 0 0, .slice none 0 0] 43) := (set_away (by omega)).trans hg3
        have D4 : Below w.heap.size w (w3.setCell ⟨p, 4, none⟩ (.slice ad3 Y1.length c3)) := D3.setCell (p := ⟨p, 4, none⟩) (Nat.le_of_lt hsp) _
        have HB5 : Hid _ := five_below (.string m) (.string t) (.int .i64 mi) (.slice fa fs.length fc) (.slice ad3 Y1.length c3) D4 (Nat.le_refl _)
        have HO5 : Hid (OwnF w.heap.size (five (w3.setCell ⟨p, 4, none⟩ (.slice ad3 Y1.length c3)) w.heap.size (.string m) (.string t) (.int .i64 mi) (.slice fa fs.length fc) (.slice ad3 Y1.length c3)) (.slice fa fs.length fc) fs) := (O1.kept (fun k h1 h2 => (five_away (by omega)).trans ((set_away (by have := HPD.out; omega)).trans ((B3.block k (by have := HPD.out; omega)).trans (hkw0 k (by have := HPD.out; omega)))))).mono (by omega)
        have HP5 : Hid (Own w.heap.size (five (w3.setCell ⟨p, 4, none⟩ (.slice ad3 Y1.length c3)) w.heap.size (.string m) (.string t) (.int .i64 mi) (.slice fa fs.length fc) (.slice ad3 Y1.length c3)) (.slice ad3 Y1.length c3) Y1) := (P3.kept (fun k h1 h2 => (five_away (by omega)).trans (set_away (by omega)))).mono (by omega)
        unfold five at HB5 HO5 HP5
        have y4 := tblk_cell (i := 4) hr3 rfl
        have x4 := lblk_z (i := 4) hr3
        have d0 := tblk_cell (i := 0) hr4 rfl
        have d1 := tblk_cell (i := 1) hr4 rfl
        have d2 := tblk_cell (i := 2) hr4 rfl
        have d3 := tblk_cell (i := 3) hr4 rfl
        have d4 := tblk_cell (i := 4) hr4 rfl
        clear hr3 hr4 hg3 D3 D4 O2 P3 B3 B2 hg2 hr2 hkw0 hsp O1 hp2 HBD
        generalize hxl : Y1.length = xl at *
        have HXL : Hid (Y1.length = xl) := hxl
        clear hxl
        have HW := five_cells hg4 (.string m) (.string t) (.int .i64 mi) (.slice fa fs.length fc) (.slice ad3 xl c3)
        have a0 := tblk_cell (i := 0) hg4 rfl
        have z0 := lblk_z (i := 0) hg4
        have a1 := tblk_cell (i := 1) hg4 rfl
        have z1 := lblk_z (i := 1) hg4
        have a2 := tblk_cell (i := 2) hg4 rfl
        have z2 := lblk_z (i := 2) hg4
        have a3 := tblk_cell (i := 3) hg4 rfl
        have z3 := lblk_z (i := 3) hg4
        have a4 := tblk_cell (i := 4) hg4 rfl
        have z4 := lblk_z (i := 4) hg4
        have r0 := tblk_cell (i := 0) HW rfl
        have r1 := tblk_cell (i := 1) HW rfl
        have r2 := tblk_cell (i := 2) HW rfl
        have r3 := tblk_cell (i := 3) HW rfl
        have r4 := tblk_cell (i := 4) HW rfl
        unfold five at r0 r1 r2 r3 r4
        clear HW hg4
        go_wp2
        refine bodyPost_ret (v := .tuple #[.agg #[.string m, .string t, .int .i64 mi, .slice fa fs.length fc, .slice ad3 xl c3], .int .i64 ((n : Int) + (Y2 : Int)), .int .i64 0]) (by simp [results, Tryz.results46, go_sem, r0, r1, r2, r3, r4]) rfl ?_
        rw [HE.out]
        obtain rfl := HXL.out
        exact ⟨fa, ad3, fc, c3, by unfold rdV; simp only; rw [Int.natCast_add], HO5.out, HP5.out, HB5.out⟩

end Go.Proofs.YtemmmdhmkegaaaaGreatDoor

/- The reference's Same: equal fields are the same. -/
namespace Go.Proofs.YtemmmdhmkegaaaaGreatDoor
open Go.ChangeShapes Go.WideShapes Go.ChangeAt Go.RowKit
set_option linter.unusedVariables false

set_option maxRecDepth 100000 in
set_option maxHeartbeats 1000000 in
theorem rsame_eq (a : Fs) (A B : Option Addr) (c d : Nat) (w : World) {X Y : Nat} (ha : Fds X w (.slice A a.length c) a) (hb : Fds Y w (.slice B a.length d) a) :
    Calls Tryz.prog 52 #[.slice A a.length c, .slice B a.length d] w fun e w' => e = .returned (.bool true) ∧ Below w.heap.size w w' := by
  have hla := ha.len
  unfold maxLen at hla
  rcases Nat.eq_zero_or_pos a.length with h0 | hp
  · have ea : a = [] := List.eq_nil_of_length_eq_zero h0
    subst ea
    clear ha hb hla h0
    go_enter Tryz.func52, Tryz.ntmps52
    go_wp2_with fail
    refine wp_loop_rounds 1 ?_
    rw [rounds_succ]
    go_wp2
    go_ret
    exact ⟨rfl, Below.refl _ _⟩
  · obtain ⟨A', c', e, _, _, _, h3⟩ := ha
    obtain ⟨rfl, _, rfl⟩ := slice_inj e
    obtain ⟨g1, o1, rfl, _, k1⟩ := h3 hp
    obtain ⟨B', d', e', _, _, _, h4⟩ := hb
    obtain ⟨rfl, _, rfl⟩ := slice_inj e'
    obtain ⟨g2, o2, rfl, _, k2⟩ := h4 hp
    have H1 : Hid (∀ (j : Nat) (hj : j < a.length), w.cell? ⟨g1, o1 + j * 2, none⟩ = some (.string a[j].1) ∧ w.cell? ⟨g1, o1 + j * 2 + 1, none⟩ = some (.string a[j].2)) := k1
    have H2 : Hid (∀ (j : Nat) (hj : j < a.length), w.cell? ⟨g2, o2 + j * 2, none⟩ = some (.string a[j].1) ∧ w.cell? ⟨g2, o2 + j * 2 + 1, none⟩ = some (.string a[j].2)) := k2
    have hln : a.length ≤ 9223372036854775807 := by omega
    clear k1 k2 e e' h3 h4 hla
    go_enter Tryz.func52, Tryz.ntmps52
    go_wp2_with fail
    go_loopw [5] (fun vi wr => ∃ k d : Nat, k ≤ a.length ∧ vi = .int .i64 k ∧ wr = w.drewN d) (fun vi _ => a.length - (intOf vi).toNat)
    case atStart => exact ⟨0, 0, Nat.zero_le _, rfl, by simp [World.drewN_zero]⟩
    case round =>
      obtain ⟨k, d, hk, rfl, rfl⟩ := hrel
      by_cases hlt : k < a.length
      · obtain ⟨p1, p2⟩ := H1.out k hlt
        obtain ⟨q1, q2⟩ := H2.out k hlt
        generalize a[k] = f at *
        obtain ⟨fn, fv⟩ := f
        simp only at p1 p2 q1 q2
        go_wp2
        go_quiet (fail)
        go_wp2
        go_roundw
        case rel => exact ⟨k + 1, _, by omega, by go_num, rfl⟩
        case measure => simp [intOf]; omega
      · go_wp2
        go_ret
        exact ⟨rfl, by refine ⟨?_, ?_, ?_, ?_, ?_⟩ <;> simp [World.drewN]⟩
end Go.Proofs.YtemmmdhmkegaaaaGreatDoor

/- The reference's SameReq: equal requests are the same. -/
namespace Go.Proofs.YtemmmdhmkegaaaaGreatDoor
open Go.RowKit
set_option linter.unusedVariables false

set_option maxRecDepth 100000 in
set_option maxHeartbeats 2000000 in
theorem samereq_eq (m t : ByteArray) (mi : Int) (fs : Fs) (body : List UInt8) (a1 a2 b1 b2 : Option Addr) (c1 c2 d1 d2 k1 k2 : Nat) (w : World) (hf1 : Fds w.heap.size w (.slice a1 fs.length c1) fs) (hf2 : Fds w.heap.size w (.slice a2 fs.length c2) fs) (hs1 : Src w k1 (.slice b1 body.length d1) body) (hk1 : 0 < body.length → k1 < w.heap.size) (hs2 : Src w k2 (.slice b2 body.length d2) body) (hk2 : 0 < body.length → k2 < w.heap.size) :
    Calls Tryz.prog 17 #[.agg #[.string m, .string t, .int .i64 mi, .slice a1 fs.length c1, .slice b1 body.length d1], .agg #[.string m, .string t, .int .i64 mi, .slice a2 fs.length c2, .slice b2 body.length d2]] w fun e w' => e = .returned (.bool true) ∧ Below w.heap.size w w' := by
  have C1 : Below w.heap.size w (w.alloc (.cells #[.string m, .string t, .int .i64 mi, .slice a1 fs.length c1, .slice b1 body.length d1] 43)) := (Below.refl _ _).alloc (Nat.le_refl _) _
  have C2 : Below w.heap.size w ((w.alloc (.cells #[.string m, .string t, .int .i64 mi, .slice a1 fs.length c1, .slice b1 body.length d1] 43)).alloc (.cells #[.string m, .string t, .int .i64 mi, .slice a2 fs.length c2, .slice b2 body.length d2] 43)) := C1.alloc C1.size _
  have h1 : ((w.alloc (.cells #[.string m, .string t, .int .i64 mi, .slice a1 fs.length c1, .slice b1 body.length d1] 43)).alloc (.cells #[.string m, .string t, .int .i64 mi, .slice a2 fs.length c2, .slice b2 body.length d2] 43)).heap[w.heap.size]? = some (.cells #[.string m, .string t, .int .i64 mi, .slice a1 fs.length c1, .slice b1 body.length d1] 43) := tblk_below (tblk_new _ _) ((Below.refl _ _).alloc (Nat.le_refl _) _)
  have h2 : ((w.alloc (.cells #[.string m, .string t, .int .i64 mi, .slice a1 fs.length c1, .slice b1 body.length d1] 43)).alloc (.cells #[.string m, .string t, .int .i64 mi, .slice a2 fs.length c2, .slice b2 body.length d2] 43)).heap[w.heap.size + 1]? = some (.cells #[.string m, .string t, .int .i64 mi, .slice a2 fs.length c2, .slice b2 body.length d2] 43) := by
    have k := tblk_new (w.alloc (.cells #[.string m, .string t, .int .i64 mi, .slice a1 fs.length c1, .slice b1 body.length d1] 43)) (.cells #[.string m, .string t, .int .i64 mi, .slice a2 fs.length c2, .slice b2 body.length d2] 43)
    have e : (w.alloc (.cells #[.string m, .string t, .int .i64 mi, .slice a1 fs.length c1, .slice b1 body.length d1] 43)).heap.size = w.heap.size + 1 := by simp
    rw [e] at k
    exact k
  have HF : Hid (Calls Tryz.prog 52 #[.slice a1 fs.length c1, .slice a2 fs.length c2] ((w.alloc (.cells #[.string m, .string t, .int .i64 mi, .slice a1 fs.length c1, .slice b1 body.length d1] 43)).alloc (.cells #[.string m, .string t, .int .i64 mi, .slice a2 fs.length c2, .slice b2 body.length d2] 43)) fun e w' => e = .returned (.bool true) ∧ Below w.heap.size w w' ∧ w'.cell? ⟨w.heap.size, 4, none⟩ = some (.slice b1 body.length d1) ∧ w'.cell? ⟨w.heap.size + 1, 4, none⟩ = some (.slice b2 body.length d2)) := by
    refine (rsame_eq fs a1 a2 c1 c2 _ (hf1.over C2) (hf2.over C2)).mono ?_
    rintro e w' ⟨he, hB⟩
    exact ⟨he, C2.trans (hB.mono C2.size), tblk_cell (tblk_below h1 hB) rfl, tblk_cell (tblk_below h2 hB) rfl⟩
  have HS : Hid (∀ W, Below w.heap.size w W → Calls Tryz.prog 27 #[.slice b1 body.length d1, .slice b2 body.length d2] W fun e w' => e = .returned (.bool true) ∧ Below W.heap.size W w') := fun W B => sameBytes_eq body k1 k2 _ _ W (hs1.keep hk1 B) (hs2.keep hk2 B)
  have x0 := tblk_cell (i := 0) h1 rfl
  have x1 := tblk_cell (i := 1) h1 rfl
  have x2 := tblk_cell (i := 2) h1 rfl
  have x3 := tblk_cell (i := 3) h1 rfl
  have y0 := tblk_cell (i := 0) h2 rfl
  have y1 := tblk_cell (i := 1) h2 rfl
  have y2 := tblk_cell (i := 2) h2 rfl
  have y3 := tblk_cell (i := 3) h2 rfl
  clear hf1 hf2 hs1 hk1 hs2 hk2 C1 C2 h1 h2
  generalize fs.length = fl at *
  generalize body.length = bl at *
  go_enter Tryz.func17, Tryz.ntmps17
  go_wp2_with fail
  refine HF.out.mono ?_
  rintro e w1 ⟨rfl, B1, q1, q2⟩
  clear HF x0 x1 x2 x3 y0 y1 y2 y3
  go_wp2_with fail
  refine (HS.out _ B1).mono ?_
  rintro e w2 ⟨rfl, B2⟩
  have D2 := B1.trans (B2.mono B1.size)
  go_wp2
  go_ret
  exact ⟨rfl, D2⟩
end Go.Proofs.YtemmmdhmkegaaaaGreatDoor

/- Numbers that came in. -/
namespace Go.Proofs.YtemmmdhmkegaaaaGreatDoor
open Go.ChangeShapes Go.WideShapes Go.ChangeAt Go.RowKit
set_option linter.unusedVariables false

end Go.Proofs.YtemmmdhmkegaaaaGreatDoor
