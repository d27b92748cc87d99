/- Texts that the proof leans on, one behind the other: ScA ScB ScC ScD ScE ScF ScG ScH ScI -/
import Derived.Test.YtajfjjmabncldaaGreatDoorSk2
import Derived.Deep.RegionHeld3
import Derived.Deep.Cut
import Derived.Maps.OwnOps
import Derived.Maps.OwnSet
import Derived.Maps.Views
import Derived.StringKeys
import Derived.Test.YtajfjjmabncldaaGreatDoorSk4
/- Scrub: a map of folded names, and the test that among makes of it; kept names. -/
namespace Go.Proofs.YtajfjjmabncldaaGreatDoor
open Go.ChangeShapes Go.WideShapes Go.ChangeAt Go.RowKit
set_option linter.unusedVariables false

theorem wf_i64 {a : Int} (h0 : -9223372036854775808 ≤ a) (h1 : a ≤ 9223372036854775807) : (Lit.int .i64 a).wf = true := by
  show (decide (_ ≤ _) && decide (_ ≤ _)) = true
  rw [Bool.and_eq_true]
  exact ⟨decide_eq_true h0, decide_eq_true h1⟩
theorem hidS {p : Prop} (h : p) : Hid p := h
theorem lit_eq {c d : Int} {z : DataW Nat} (h : z = .lit (.int .i64 c)) (k : z = .lit (.int .i64 d)) : d = c := by
  rw [h] at k
  injection k with k
  injection k with _ k
  exact k.symm
theorem isKeyS (x : List UInt8) : WideAt.IsKeyLit (.string x) := by first | exact trivial | (unfold WideAt.IsKeyLit; simp)
/-- Of each folded name, how often it stands. -/
def CntN (D : DataW Nat) (ks : List (List UInt8)) : Prop := ∀ x : List UInt8, D.atKey (.string x) (.lit (.int .i64 0)) = .lit (.int .i64 ((ks.count x : Nat) : Int))
theorem CntN.snoc {D : DataW Nat} {ks : List (List UInt8)} (h : CntN D ks) (hm : Maps.IsMap D) (y : List UInt8) : CntN (D.put (.string y) (.lit (.int .i64 ((ks.count y : Nat) + 1 : Int)))) (ks ++ [y]) := by
  intro x
  by_cases e : x = y
  · subst e
    rw [Maps.atKey_put_same hm (isKeyS _)]
    simp
  · rw [Maps.atKey_put_other (fun c => e (by injection c)), h x]
    have : List.count x [y] = 0 := by simp [Ne.symm e]
    rw [List.count_append, this]
    simp
def fkeys (xs : List ByteArray) : List (List UInt8) := xs.map (fun x => (foldS x).data.toList)
/-- Is a name, folded, among them? -/
def hasK (xs : List ByteArray) (s : ByteArray) : Bool := decide ((foldS s).data.toList ∈ fkeys xs)
/-- The map of the names xs, beside the cell p. -/
def AmAt (W : World) (p : Nat) (xs : List ByteArray) : Prop := ∃ mb n D, W.heap[p]? = some (.cells #[.map (some mb)] 101) ∧ W.ownsMap (H := Nat) Tryz.prog 9 (plainElem Tryz.prog 3) mb n D ∧ CntN D (fkeys xs)
theorem ownsMap_at {w w' : World} {P : Program} {k : TypeId} {R : Value → Option (DataW Nat × List MemPlace)} {b n : Nat} {D : DataW Nat} (h : w.ownsMap P k R b n D) (e : w'.heap[b]? = w.heap[b]?) : w'.ownsMap P k R b n D := by
  obtain ⟨es, c, hb, r⟩ := h
  exact ⟨es, c, e.trans hb, r⟩
theorem ownsMap_below {w w' : World} {P : Program} {k : TypeId} {R : Value → Option (DataW Nat × List MemPlace)} {b n : Nat} {D : DataW Nat} (h : w.ownsMap P k R b n D) (B : Below w.heap.size w w') : w'.ownsMap P k R b n D :=
  ownsMap_at h (B.block b h.lt)
theorem AmAt.below {w w' : World} {p : Nat} {xs : List ByteArray} (h : AmAt w p xs) (B : Below w.heap.size w w') : AmAt w' p xs := by
  obtain ⟨mb, n, D, h1, h2, h3⟩ := h
  exact ⟨mb, n, D, tblk_below h1 B, ownsMap_below h2 B, h3⟩
theorem fkeys_count (xs : List ByteArray) (s : ByteArray) : (fkeys xs).count (foldS s).data.toList ≤ xs.length := by
  refine Nat.le_trans (List.count_le_length) ?_
  simp [fkeys]
theorem hasK_count (xs : List ByteArray) (s : ByteArray) : decide (0 < (fkeys xs).count (foldS s).data.toList) = hasK xs s := by
  unfold hasK
  apply decide_eq_decide.2
  rw [← List.count_pos_iff]
theorem foldS_size (s : ByteArray) : (foldS s).size = s.size := by
  show (foldL s.data.toList).toArray.size = s.data.size
  rw [List.size_toArray]
  unfold foldL
  rw [List.length_map, Array.length_toList]
set_option maxRecDepth 100000 in
set_option maxHeartbeats 1000000 in
theorem scamong1_any (s : ByteArray) (p : Nat) (xs : List ByteArray) (w : World) (h : AmAt w p xs) (hs : s.size ≤ 140737488355328) :
    Calls Tryz.prog 79 #[.string s, .pointer (some ⟨p, 0, none⟩)] w fun e w' => e = .returned (.bool (hasK xs s)) ∧ Below w.heap.size w w' := by
  obtain ⟨mb, n, D, h1, h2, h3⟩ := h
  have hp := (Array.getElem?_eq_some_iff.1 h1).1
  have hzI := Tryz.zeroValue3
  have KS := Maps.string_keyed (P := Tryz.prog) (k := 9) Tryz.underlying9
  have c1 : w.cell? ⟨p, 0, none⟩ = some (.map (some mb)) := tblk_cell h1 rfl
  have HM : Hid (∀ W, Below w.heap.size w W → W.ownsMap (H := Nat) Tryz.prog 9 (plainElem Tryz.prog 3) mb n D) := fun W B => ownsMap_below h2 B
  have HF : Hid (∀ W, Calls Tryz.prog 61 #[.string s] W fun e w' => e = .returned (.string (foldS s)) ∧ Below W.heap.size W w') := fun W => fold_any s W (by unfold maxLen; omega)
  have hkey := Go.WideMaps.keyOf_string_mk (P := Tryz.prog) (k := 9) Tryz.underlying9 (s := foldS s) (by rw [foldS_size]; unfold maxLen; omega)
  have hat0 := h3 (foldS s).data.toList
  have HC := hidS (hasK_count xs s)
  have HLK : Hid (∀ W, Below w.heap.size w W → (Instr.lookup 101 (.map (some mb)) (.string (foldS s)) false).run Tryz.prog W = .ok (.int .i64 ((fkeys xs).count (foldS s).data.toList : Nat)) W) := fun W B => by
    obtain ⟨c, hr, hat, _⟩ := (HM.out W B).lookup_int KS Tryz.underlying101 Tryz.underlying3 (hzI _) hkey
    rw [hr, ← lit_eq hat0 hat]
  have HD : Hid (∀ W, Below w.drew.heap.size w.drew W → Below w.heap.size w W) := fun W B => (Below.refl _ _).drew.trans B
  have HP : Hid (∀ W, Below w.heap.size w W → W.cell? ⟨p, 0, none⟩ = some (.map (some mb))) := fun W B => (B.cell (p := ⟨p, 0, none⟩) hp).trans c1
  clear h1 h2 h3 hs hp hat0 HM hkey KS
  generalize (fkeys xs).count (foldS s).data.toList = c0 at *
  generalize hasK xs s = t at *
  go_enter Tryz.func79, Tryz.ntmps79
  go_wp2_with fail
  go_region_held3 (fun W => W.cell? ⟨p, 0, none⟩ = some (.map (some mb))) (go_keep) (first | (go_at_call 61; refine (HF.out _).mono ?_; rintro e w2 ⟨rfl, B2⟩; have B2' := HD.out _ B2; have hS : w2.cell? ⟨p, 0, none⟩ = some (.map (some mb)) := HP.out _ B2'; have hlk := HLK.out _ B2'))
  go_wp2
  go_ret
  exact ⟨ret_b HC.out, B2'⟩

theorem CntN.nil : CntN (.map []) [] := fun x => WideAt.atKey_none _ (fun p hp => by cases hp)
set_option maxRecDepth 100000 in
set_option maxHeartbeats 2000000 in
theorem scamong_any (xs : List ByteArray) (a : Option Addr) (c : Nat) (w : World) (hf : Txs w.heap.size w (.slice a xs.length c) xs) (hb : TBd 140737488355328 xs) :
    Calls Tryz.prog 40 #[.slice a xs.length c] w fun e w' => ∃ p, e = .returned (.func (.func 79) #[] #[.pointer (some ⟨p, 0, none⟩)]) ∧ w.heap.size ≤ p ∧ p < w'.heap.size ∧ AmAt w' p xs ∧ Below w.heap.size w w' := by
  have hmf : ∀ (fn : Fn) (first cap : Array Value) (w : World), (Instr.makeFunc fn first cap).run Tryz.prog w = .ok (.func fn first cap) w := fun _ _ _ _ => rfl
  have hmm := @ run_makeMap Tryz.prog
  have hzI := Tryz.zeroValue3
  have KS := Maps.string_keyed (P := Tryz.prog) (k := 9) Tryz.underlying9
  have M0 : ((w.alloc (.map #[] 0)).alloc (.cells #[.map (some w.heap.size)] 101)).ownsMap (H := Nat) Tryz.prog 9 (plainElem Tryz.prog 3) w.heap.size 0 (.map []) := (World.ownsMap_made (H := Nat) w Tryz.prog 9 (plainElem Tryz.prog 3)).alloc _
  have B0 : Below w.heap.size w ((w.alloc (.map #[] 0)).alloc (.cells #[.map (some w.heap.size)] 101)) := ((Below.refl _ _).alloc (Nat.le_refl _) _).alloc (by simp) _
  have P0 : ((w.alloc (.map #[] 0)).alloc (.cells #[.map (some w.heap.size)] 101)).heap[w.heap.size + 1]? = some (.cells #[.map (some w.heap.size)] 101) := by
    have k := tblk_new (w.alloc (.map #[] 0)) (.cells #[.map (some w.heap.size)] 101)
    rw [show (w.alloc (.map #[] 0)).heap.size = w.heap.size + 1 by simp] at k
    exact k
  rcases Nat.eq_zero_or_pos xs.length with h0 | hp
  · have he : xs = [] := List.eq_nil_of_length_eq_zero h0
    subst he
    clear hf hb h0
    go_enter Tryz.func40, Tryz.ntmps40
    go_wp2_with fail
    refine wp_loop_rounds 1 ?_
    rw [rounds_succ]
    go_wp2
    go_ret
    exact ⟨_, rfl, Nat.le_succ _, by simp, ⟨_, _, _, P0, M0, CntN.nil⟩, B0⟩
  · have hlm := hf.len.2
    unfold maxLen at hlm
    obtain ⟨a', c', e, hnil, q1, q2, q3⟩ := hf
    obtain ⟨rfl, _, rfl⟩ := slice_inj e
    obtain ⟨g, off, rfl, hg, hc⟩ := q3 hp
    have HC : Hid (∀ (j : Nat) (hj : j < xs.length), w.cell? ⟨g, off + j, none⟩ = some (.string xs[j])) := hc
    have HBD : Hid (TBd 140737488355328 xs) := hb
    clear e hnil q1 q2 q3 hc hb
    go_enter Tryz.func40, Tryz.ntmps40
    go_wp2_with fail
    go_loopw [9] (fun vi wr => ∃ (k : Nat) (D : DataW Nat), k ≤ xs.length ∧ vi = .int .i64 k ∧ Hid (wr.ownsMap Tryz.prog 9 (plainElem Tryz.prog 3) w.heap.size k D) ∧ Hid (CntN D (fkeys (xs.take k))) ∧ Hid (wr.heap[w.heap.size + 1]? = some (.cells #[.map (some w.heap.size)] 101)) ∧ Below w.heap.size w wr) (fun vi _ => xs.length - (intOf vi).toNat)
    case atStart => exact ⟨0, _, Nat.zero_le _, rfl, M0, CntN.nil, P0, B0⟩
    case round =>
      obtain ⟨k, D, hk, rfl, hM, hC, hP, hB⟩ := hrel
      clear M0 B0 P0
      by_cases hlt : k < xs.length
      · have hcell := (hB.cell (p := ⟨g, off + k, none⟩) hg).trans (HC.out k hlt)
        have hsz := HBD.out xs[k] (List.getElem_mem hlt)
        have hkey := Go.WideMaps.keyOf_string_mk (P := Tryz.prog) (k := 9) Tryz.underlying9 (s := foldS xs[k]) (by rw [foldS_size]; unfold maxLen; omega)
        have hat0 := hC.out (foldS xs[k]).data.toList
        have hcl : (fkeys (xs.take k)).count (foldS xs[k]).data.toList ≤ k := Nat.le_trans (fkeys_count _ _) (by simp; omega)
        have hsn : Hid (fkeys (xs.take (k + 1)) = fkeys (xs.take k) ++ [(foldS xs[k]).data.toList]) := by
          rw [Hid, List.take_succ_eq_append_getElem hlt]; unfold fkeys; rw [List.map_append]; rfl
        have HF : Hid (∀ W, Calls Tryz.prog 61 #[.string xs[k]] W fun e w' => e = .returned (.string (foldS xs[k])) ∧ Below W.heap.size W w') := fun W => fold_any xs[k] W (by unfold maxLen; omega)
        have HCS : Hid (CntN (D.put (.string (foldS xs[k]).data.toList) (.lit (.int .i64 (((fkeys (xs.take k)).count (foldS xs[k]).data.toList : Nat) + 1 : Int)))) (fkeys (xs.take (k + 1)))) := by
          rw [Hid, hsn.out]
          exact hC.out.snoc hM.out.isMap _
        have HMM : Hid (∀ W, Below wr.heap.size wr W → W.ownsMap (H := Nat) Tryz.prog 9 (plainElem Tryz.prog 3) w.heap.size k D) := fun W B => ownsMap_below hM.out B
        have hpl := tblk_cell hP.out (i := 0) (v := .map (some w.heap.size)) rfl
        have hpz : w.heap.size + 1 < wr.heap.size := (Array.getElem?_eq_some_iff.1 hP.out).1
        have HPC : Hid (∀ W, Below wr.heap.size wr W → W.cell? ⟨w.heap.size + 1, 0, none⟩ = some (.map (some w.heap.size))) := fun W B => (B.cell (p := ⟨w.heap.size + 1, 0, none⟩) hpz).trans hpl
        have HPB : Hid (∀ W, Below wr.heap.size wr W → W.heap[w.heap.size + 1]? = some (.cells #[.map (some w.heap.size)] 101)) := fun W B => tblk_below hP.out B
        have hwr := hB.size
        have HLK : Hid (∀ W, Below wr.heap.size wr W → (Instr.lookup 101 (.map (some w.heap.size)) (.string (foldS xs[k])) false).run Tryz.prog W = .ok (.int .i64 ((fkeys (xs.take k)).count (foldS xs[k]).data.toList : Nat)) W) := fun W B => by
          obtain ⟨c, hr, hat, _⟩ := (HMM.out W B).lookup_int KS Tryz.underlying101 Tryz.underlying3 (hzI _) hkey
          rw [hr, ← lit_eq hat0 hat]
        have HUP : Hid (∀ W, Below wr.heap.size wr W → ∃ w3, (Instr.mapUpdate 101 (.map (some w.heap.size)) (.string (foldS xs[k])) (.int .i64 (((fkeys (xs.take k)).count (foldS xs[k]).data.toList : Nat) + 1 : Int))).run Tryz.prog W = .ok () w3 ∧ w3.ownsMap (H := Nat) Tryz.prog 9 (plainElem Tryz.prog 3) w.heap.size (k + 1) (D.put (.string (foldS xs[k]).data.toList) (.lit (.int .i64 (((fkeys (xs.take k)).count (foldS xs[k]).data.toList : Nat) + 1 : Int)))) ∧ w3.cell? ⟨w.heap.size + 1, 0, none⟩ = some (.map (some w.heap.size)) ∧ w3.heap[w.heap.size + 1]? = some (.cells #[.map (some w.heap.size)] 101) ∧ Below w.heap.size w w3) := fun W B => by
          obtain ⟨w3, r, o3, g3⟩ := (HMM.out W B).update KS Tryz.underlying101 (by unfold maxLen; omega) hkey (plainElem_int Tryz.underlying3 (a := (((fkeys (xs.take k)).count (foldS xs[k]).data.toList : Nat) + 1 : Int)) (wf_i64 (by omega) (by omega)))
          exact ⟨w3, r, o3, g3.cell (HPC.out W B) (by simp), (g3.block _ (Nat.lt_of_lt_of_le hpz B.size) (by simp)).trans (HPB.out W B), (hB.trans (B.mono hB.size)).grown g3 (Nat.le_trans hB.size B.size) (fun k e => by cases e; exact Nat.le_refl _)⟩
        have HD : Hid (∀ W, Below wr.drew.heap.size wr.drew W → Below wr.heap.size wr W) := fun W B => (Below.refl _ _).drew.trans B
        have HB : Hid (Below w.heap.size w wr) := hB
        clear hM hC hsz hP hsn hB HMM HPB hkey hat0
        have hwp : IntKind.i64.wrap (((fkeys (xs.take k)).count (foldS xs[k]).data.toList : Nat) + 1 : Int) = (((fkeys (xs.take k)).count (foldS xs[k]).data.toList : Nat) + 1 : Int) := by rw [IntKind.wrap_i64]; omega
        generalize (fkeys (xs.take k)).count (foldS xs[k]).data.toList = c0 at *
        generalize foldS xs[k] = y at *
        generalize xs[k] = x at *
        go_upto_region 5 with fail
        go_region_held3 (fun W => W.cell? ⟨w.heap.size + 1, 0, none⟩ = some (.map (some w.heap.size))) (go_keep) (first | (go_at_call 61; refine (HF.out _).mono ?_; rintro e w2 ⟨rfl, B2⟩; have B2' := HD.out _ B2; have hS : w2.cell? ⟨w.heap.size + 1, 0, none⟩ = some (.map (some w.heap.size)) := HPC.out _ B2'; have hlk := HLK.out _ B2'; obtain ⟨w3, hup, hown3, hS3, hp3, hB3⟩ := HUP.out _ B2'))
        go_wp2
        go_roundw
        case rel => exact ⟨k + 1, _, by omega, by go_num, hown3, HCS.out, hp3, hB3⟩
        case measure => simp [intOf]; omega
      · have hk' : k = xs.length := by omega
        subst hk'
        have h1 := hM.out
        have h2 := hC.out
        rw [List.take_length] at h2
        have h3 := hP.out
        clear hM hC hP
        have HR : Hid (AmAt wr (w.heap.size + 1) xs) := ⟨_, _, _, h3, h1, h2⟩
        have hpz : w.heap.size + 1 < wr.heap.size := (Array.getElem?_eq_some_iff.1 h3).1
        clear h1 h2 h3
        go_wp2
        go_ret
        exact ⟨_, rfl, Nat.le_succ _, hpz, HR.out, hB⟩
end Go.Proofs.YtajfjjmabncldaaGreatDoor

/- Scrub: kept names; what doesn't go on (written by scb.py). -/
namespace Go.Proofs.YtajfjjmabncldaaGreatDoor
open Go.ChangeShapes Go.WideShapes Go.ChangeAt Go.RowKit
set_option linter.unusedVariables false

def keptL : List (List UInt8) := [[104, 111, 115, 116], [99, 111, 110, 116, 101, 110, 116, 45, 108, 101, 110, 103, 116, 104], [116, 114, 97, 110, 115, 102, 101, 114, 45, 101, 110, 99, 111, 100, 105, 110, 103], [99, 111, 110, 110, 101, 99, 116, 105, 111, 110], [107, 101, 101, 112, 45, 97, 108, 105, 118, 101], [112, 114, 111, 120, 121, 45, 99, 111, 110, 110, 101, 99, 116, 105, 111, 110], [116, 101], [116, 114, 97, 105, 108, 101, 114], [117, 112, 103, 114, 97, 100, 101], [101, 120, 112, 101, 99, 116], [118, 105, 97]]
def keptF (x : ByteArray) : Bool := decide (x.data.toList ∈ keptL)
theorem neL {x : ByteArray} {a : Array UInt8} (h : ¬ x = ⟨a⟩) : ¬ x.data.toList = a.toList := fun e => h (by
  obtain ⟨d⟩ := x
  exact congrArg ByteArray.mk (Array.toList_inj.1 e))
/-- Is a name a kept one? -/
def keptS (s : ByteArray) : Bool := keptF (foldS s)
theorem keptF_yes {x : ByteArray} (h : x.data.toList ∈ keptL) : keptF x = true := decide_eq_true h
theorem keptF_no {x : ByteArray} (h : ¬ x.data.toList ∈ keptL) : keptF x = false := decide_eq_false h
set_option maxRecDepth 100000 in
set_option maxHeartbeats 2000000 in
theorem ckept_any (s : ByteArray) (w : World) (hs : s.size ≤ 140737488355328) :
    Calls Tryz.prog 24 #[.string s] w fun e w' => e = .returned (.bool (keptS s)) ∧ Below w.heap.size w w' := by
  have HF : Hid (Calls Tryz.prog 61 #[.string s] w fun e w' => e = .returned (.string (foldS s)) ∧ Below w.heap.size w w') := fold_any s w (by unfold maxLen; omega)
  unfold keptS
  clear hs
  generalize foldS s = x at *
  go_enter Tryz.func24, Tryz.ntmps24
  go_wp2_with fail
  refine HF.out.mono ?_
  rintro e w2 ⟨rfl, B2⟩
  clear HF
  by_cases e0 : x = ⟨#[104, 111, 115, 116]⟩
  · have HK : Hid (keptF x = true) := keptF_yes (by rw [e0]; simp [keptL])
    subst e0
    go_wp2
    go_ret
    exact ⟨ret_b HK.out.symm, B2⟩
  · skip
    by_cases e1 : x = ⟨#[99, 111, 110, 116, 101, 110, 116, 45, 108, 101, 110, 103, 116, 104]⟩
    · have HK : Hid (keptF x = true) := keptF_yes (by rw [e1]; simp [keptL])
      subst e1
      go_wp2
      go_ret
      exact ⟨ret_b HK.out.symm, B2⟩
    · skip
      by_cases e2 : x = ⟨#[116, 114, 97, 110, 115, 102, 101, 114, 45, 101, 110, 99, 111, 100, 105, 110, 103]⟩
      · have HK : Hid (keptF x = true) := keptF_yes (by rw [e2]; simp [keptL])
        subst e2
        go_wp2
        go_ret
        exact ⟨ret_b HK.out.symm, B2⟩
      · skip
        by_cases e3 : x = ⟨#[99, 111, 110, 110, 101, 99, 116, 105, 111, 110]⟩
        · have HK : Hid (keptF x = true) := keptF_yes (by rw [e3]; simp [keptL])
          subst e3
          go_wp2
          go_ret
          exact ⟨ret_b HK.out.symm, B2⟩
        · skip
          by_cases e4 : x = ⟨#[107, 101, 101, 112, 45, 97, 108, 105, 118, 101]⟩
          · have HK : Hid (keptF x = true) := keptF_yes (by rw [e4]; simp [keptL])
            subst e4
            go_wp2
            go_ret
            exact ⟨ret_b HK.out.symm, B2⟩
          · skip
            by_cases e5 : x = ⟨#[112, 114, 111, 120, 121, 45, 99, 111, 110, 110, 101, 99, 116, 105, 111, 110]⟩
            · have HK : Hid (keptF x = true) := keptF_yes (by rw [e5]; simp [keptL])
              subst e5
              go_wp2
              go_ret
              exact ⟨ret_b HK.out.symm, B2⟩
            · skip
              by_cases e6 : x = ⟨#[116, 101]⟩
              · have HK : Hid (keptF x = true) := keptF_yes (by rw [e6]; simp [keptL])
                subst e6
                go_wp2
                go_ret
                exact ⟨ret_b HK.out.symm, B2⟩
              · skip
                by_cases e7 : x = ⟨#[116, 114, 97, 105, 108, 101, 114]⟩
                · have HK : Hid (keptF x = true) := keptF_yes (by rw [e7]; simp [keptL])
                  subst e7
                  go_wp2
                  go_ret
                  exact ⟨ret_b HK.out.symm, B2⟩
                · skip
                  by_cases e8 : x = ⟨#[117, 112, 103, 114, 97, 100, 101]⟩
                  · have HK : Hid (keptF x = true) := keptF_yes (by rw [e8]; simp [keptL])
                    subst e8
                    go_wp2
                    go_ret
                    exact ⟨ret_b HK.out.symm, B2⟩
                  · skip
                    by_cases e9 : x = ⟨#[101, 120, 112, 101, 99, 116]⟩
                    · have HK : Hid (keptF x = true) := keptF_yes (by rw [e9]; simp [keptL])
                      subst e9
                      go_wp2
                      go_ret
                      exact ⟨ret_b HK.out.symm, B2⟩
                    · skip
                      by_cases e10 : x = ⟨#[118, 105, 97]⟩
                      · have HK : Hid (keptF x = true) := keptF_yes (by rw [e10]; simp [keptL])
                        subst e10
                        go_wp2
                        go_ret
                        exact ⟨ret_b HK.out.symm, B2⟩
                      · skip
                        have n0 : ¬ x.data.toList = [104, 111, 115, 116] := neL e0
                        have n1 : ¬ x.data.toList = [99, 111, 110, 116, 101, 110, 116, 45, 108, 101, 110, 103, 116, 104] := neL e1
                        have n2 : ¬ x.data.toList = [116, 114, 97, 110, 115, 102, 101, 114, 45, 101, 110, 99, 111, 100, 105, 110, 103] := neL e2
                        have n3 : ¬ x.data.toList = [99, 111, 110, 110, 101, 99, 116, 105, 111, 110] := neL e3
                        have n4 : ¬ x.data.toList = [107, 101, 101, 112, 45, 97, 108, 105, 118, 101] := neL e4
                        have n5 : ¬ x.data.toList = [112, 114, 111, 120, 121, 45, 99, 111, 110, 110, 101, 99, 116, 105, 111, 110] := neL e5
                        have n6 : ¬ x.data.toList = [116, 101] := neL e6
                        have n7 : ¬ x.data.toList = [116, 114, 97, 105, 108, 101, 114] := neL e7
                        have n8 : ¬ x.data.toList = [117, 112, 103, 114, 97, 100, 101] := neL e8
                        have n9 : ¬ x.data.toList = [101, 120, 112, 101, 99, 116] := neL e9
                        have n10 : ¬ x.data.toList = [118, 105, 97] := neL e10
                        have HK : Hid (keptF x = false) := keptF_no (by simp [keptL, n0, n1, n2, n3, n4, n5, n6, n7, n8, n9, n10])
                        have m0 : (x.toList == [104, 111, 115, 116]) = false := by rw [ByteArray.toList_eq]; exact beq_false_of_ne n0
                        have m1 : (x.toList == [99, 111, 110, 116, 101, 110, 116, 45, 108, 101, 110, 103, 116, 104]) = false := by rw [ByteArray.toList_eq]; exact beq_false_of_ne n1
                        have m2 : (x.toList == [116, 114, 97, 110, 115, 102, 101, 114, 45, 101, 110, 99, 111, 100, 105, 110, 103]) = false := by rw [ByteArray.toList_eq]; exact beq_false_of_ne n2
                        have m3 : (x.toList == [99, 111, 110, 110, 101, 99, 116, 105, 111, 110]) = false := by rw [ByteArray.toList_eq]; exact beq_false_of_ne n3
                        have m4 : (x.toList == [107, 101, 101, 112, 45, 97, 108, 105, 118, 101]) = false := by rw [ByteArray.toList_eq]; exact beq_false_of_ne n4
                        have m5 : (x.toList == [112, 114, 111, 120, 121, 45, 99, 111, 110, 110, 101, 99, 116, 105, 111, 110]) = false := by rw [ByteArray.toList_eq]; exact beq_false_of_ne n5
                        have m6 : (x.toList == [116, 101]) = false := by rw [ByteArray.toList_eq]; exact beq_false_of_ne n6
                        have m7 : (x.toList == [116, 114, 97, 105, 108, 101, 114]) = false := by rw [ByteArray.toList_eq]; exact beq_false_of_ne n7
                        have m8 : (x.toList == [117, 112, 103, 114, 97, 100, 101]) = false := by rw [ByteArray.toList_eq]; exact beq_false_of_ne n8
                        have m9 : (x.toList == [101, 120, 112, 101, 99, 116]) = false := by rw [ByteArray.toList_eq]; exact beq_false_of_ne n9
                        have m10 : (x.toList == [118, 105, 97]) = false := by rw [ByteArray.toList_eq]; exact beq_false_of_ne n10
                        clear n0 e0 n1 e1 n2 e2 n3 e3 n4 e4 n5 e5 n6 e6 n7 e7 n8 e8 n9 e9 n10 e10
                        go_wp2
                        go_ret
                        exact ⟨ret_b HK.out.symm, B2⟩

def ownN : ByteArray := ⟨#[120, 45, 116, 111, 108, 108, 98, 97, 114, 45]⟩
/-- Among the names that Connection gives, does this one not go on? -/
def hopP (xs : List ByteArray) (s : ByteArray) : Bool := keptS s || hasK xs s || hasP (foldS s) ownN
def amongV (p : Nat) : Value := .func (.func 79) #[] #[.pointer (some ⟨p, 0, none⟩)]
def hopV (p : Nat) : Value := .func (.func 75) #[] #[.pointer (some ⟨p, 0, none⟩)]
def HopAt (W : World) (p : Nat) (xs : List ByteArray) : Prop := ∃ q, W.heap[p]? = some (.cells #[amongV q] 67) ∧ AmAt W q xs
theorem HopAt.below {w w' : World} {p : Nat} {xs : List ByteArray} (h : HopAt w p xs) (B : Below w.heap.size w w') : HopAt w' p xs := by
  obtain ⟨q, h1, h2⟩ := h
  exact ⟨q, tblk_below h1 B, h2.below B⟩
set_option maxRecDepth 100000 in
set_option maxHeartbeats 1000000 in
theorem schop1_any (s : ByteArray) (p : Nat) (xs : List ByteArray) (w : World) (h : HopAt w p xs) (hs : s.size ≤ 140737488355328) :
    Calls Tryz.prog 75 #[.string s, .pointer (some ⟨p, 0, none⟩)] w fun e w' => e = .returned (.bool (hopP xs s)) ∧ Below w.heap.size w w' := by
  obtain ⟨q, h1, h2⟩ := h
  have HK := hidS (ckept_any s w hs)
  have HA : Hid (∀ W, Below w.heap.size w W → Calls Tryz.prog 79 #[.string s, .pointer (some ⟨q, 0, none⟩)] W fun e w' => e = .returned (.bool (hasK xs s)) ∧ Below W.heap.size W w') := fun W B => scamong1_any s q xs W (h2.below B) hs
  have HF : Hid (∀ W, Calls Tryz.prog 61 #[.string s] W fun e w' => e = .returned (.string (foldS s)) ∧ Below W.heap.size W w') := fun W => fold_any s W (by unfold maxLen; omega)
  have HP : Hid (∀ W, Calls Tryz.prog 76 #[.string (foldS s), .string ⟨#[120, 45, 116, 111, 108, 108, 98, 97, 114, 45]⟩] W fun e w' => e = .returned (.bool (hasP (foldS s) ownN)) ∧ w' = W) := fun W => shasprefix_any (foldS s) ownN W
  have HC : Hid (∀ W, Below w.heap.size w W → W.cell? ⟨p, 0, none⟩ = some (.func (.func 79) #[] #[.pointer (some ⟨q, 0, none⟩)])) := fun W B => tblk_cell (tblk_below h1 B) rfl
  have HV : Hid (hopP xs s = (keptS s || hasK xs s || hasP (foldS s) ownN)) := rfl
  clear h1 h2 hs
  generalize hopP xs s = t at *
  generalize keptS s = t1 at *
  generalize hasK xs s = t2 at *
  generalize hasP (foldS s) ownN = t3 at *
  generalize foldS s = y at *
  go_enter Tryz.func75, Tryz.ntmps75
  go_wp2_with fail
  refine HK.out.mono ?_
  rintro e w1 ⟨rfl, B1⟩
  have hc := HC.out w1 B1
  clear HK
  cases t1
  · go_wp2_with fail
    refine (HA.out w1 B1).mono ?_
    rintro e w2 ⟨rfl, B2⟩
    have B2' := B1.trans (B2.mono B1.size)
    clear HA B1 B2 hc HC
    cases t2
    · go_wp2_with fail
      refine (HF.out w2).mono ?_
      rintro e w3 ⟨rfl, B3⟩
      have B3' := B2'.trans (B3.mono B2'.size)
      go_wp2_with fail
      refine (HP.out w3).mono ?_
      rintro e w4 ⟨rfl, h4⟩
      rw [h4]
      clear h4 B3 B2' HF HP
      go_wp2
      go_ret
      exact ⟨ret_b (by rw [HV.out]; simp), B3'⟩
    · go_wp2
      go_ret
      exact ⟨ret_b (by rw [HV.out]; simp), B2'⟩
  · go_wp2
    go_ret
    exact ⟨ret_b (by rw [HV.out]; simp), B1⟩
def connN : ByteArray := ⟨#[67, 111, 110, 110, 101, 99, 116, 105, 111, 110]⟩
theorem schop_any (fs : Fs) (a : Option Addr) (c : Nat) (w : World) (hf : Fds w.heap.size w (.slice a fs.length c) fs) (hb : FBd 1048576 fs) (hl : fs.length ≤ 1024) (hM : MaxL w) :
    Calls Tryz.prog 36 #[.slice a fs.length c] w fun e w' => ∃ p, e = .returned (.func (.func 75) #[] #[.pointer (some ⟨p, 0, none⟩)]) ∧ w.heap.size ≤ p ∧ p < w'.heap.size ∧ HopAt w' p (listF fs connN) ∧ Below w.heap.size w w' := by
  have hmf : ∀ (fn : Fn) (first cap : Array Value) (w : World), (Instr.makeFunc fn first cap).run Tryz.prog w = .ok (.func fn first cap) w := fun _ _ _ _ => rfl
  have hst := fun (fn : Fn) (fi ca : Array Value) (a : Addr) m (w : World) => run_store Tryz.prog w a (.func fn fi ca) m rfl
  have HL := hidS (list_any fs a c connN w hf hb (by decide) hl hM)
  have HB : Hid (TBd 140737488355328 (listF fs connN)) := fun x hx => Nat.le_trans (listF_bd hb x hx) (by decide)
  clear hf hb hl hM
  unfold connN at *
  generalize listF fs ⟨#[67, 111, 110, 110, 101, 99, 116, 105, 111, 110]⟩ = xs at *
  go_enter Tryz.func36, Tryz.ntmps36
  go_wp2_with fail
  refine HL.out.mono ?_
  rintro e w1 ⟨ao, cv, rfl, O1, B1⟩
  have HA := hidS (scamong_any xs ao cv w1 O1.txs HB.out)
  clear HL O1
  go_wp2_with fail
  refine HA.out.mono ?_
  rintro e w2 ⟨p, rfl, hp1, hp2, A2, B2⟩
  have BA : Below w2.heap.size w2 (w2.alloc (.cells #[.func (.func 79) #[] #[.pointer (some ⟨p, 0, none⟩)]] 67)) := (Below.refl _ _).alloc (Nat.le_refl _) _
  have HR : Hid (HopAt (w2.alloc (.cells #[.func (.func 79) #[] #[.pointer (some ⟨p, 0, none⟩)]] 67)) w2.heap.size xs) := ⟨p, tblk_new w2 _, A2.below BA⟩
  have B12 := B1.trans (B2.mono B1.size)
  have HB2 := hidS (B12.trans (BA.mono B12.size))
  have h12 := B12.size
  clear HA A2 BA B1 B2 B12 HB
  go_wp2
  go_ret
  exact ⟨_, rfl, h12, by simp, HR.out, HB2.out⟩
/-- A test, and what it tells of a name. -/
abbrev Tst := Value × (ByteArray → Bool)
def TestAt (W : World) (t : Tst) : Prop := ∃ p xs, (t.1 = amongV p ∧ t.2 = hasK xs ∧ AmAt W p xs) ∨ (t.1 = hopV p ∧ t.2 = hopP xs ∧ HopAt W p xs)
theorem TestAt.below {w w' : World} {t : Tst} (h : TestAt w t) (B : Below w.heap.size w w') : TestAt w' t := by
  obtain ⟨p, xs, h⟩ := h
  rcases h with ⟨h1, h2, h3⟩ | ⟨h1, h2, h3⟩
  · exact ⟨p, xs, .inl ⟨h1, h2, h3.below B⟩⟩
  · exact ⟨p, xs, .inr ⟨h1, h2, h3.below B⟩⟩
theorem scwithout1_any (t : Tst) (n v : ByteArray) (fb : Nat) (w : World) (ht : TestAt w t) (h : w.heap[fb]? = some (.cells #[.string n, .string v] 34)) (hn : n.size ≤ 140737488355328) :
    Calls Tryz.prog 78 #[t.1, .pointer (some ⟨fb, 0, none⟩)] w fun e w' => e = .returned (.bool (t.2 n)) ∧ Below w.heap.size w w' := by
  have c0 : w.cell? ⟨fb, 0, none⟩ = some (.string n) := tblk_cell h rfl
  obtain ⟨tv, tp⟩ := t
  obtain ⟨p, xs, ht⟩ := ht
  simp only at ht
  rcases ht with ⟨rfl, rfl, h3⟩ | ⟨rfl, rfl, h3⟩
  · have HA := hidS (scamong1_any n p xs w h3 hn)
    simp only
    unfold amongV
    clear h h3 hn
    generalize hasK xs n = r at *
    go_enter Tryz.func78, Tryz.ntmps78
    go_wp2_with fail
    refine HA.out.mono ?_
    rintro e w2 ⟨rfl, B2⟩
    go_wp2
    go_ret
    exact ⟨rfl, B2⟩
  · have HA := hidS (schop1_any n p xs w h3 hn)
    simp only
    unfold hopV
    clear h h3 hn
    generalize hopP xs n = r at *
    go_enter Tryz.func78, Tryz.ntmps78
    go_wp2_with fail
    refine HA.out.mono ?_
    rintro e w2 ⟨rfl, B2⟩
    go_wp2
    go_ret
    exact ⟨rfl, B2⟩
end Go.Proofs.YtajfjjmabncldaaGreatDoor

/- Scrub: slices.ContainsFunc of tests; a field's copy; what passes no test (written by scc.py). -/
namespace Go.Proofs.YtajfjjmabncldaaGreatDoor
open Go.ChangeShapes Go.WideShapes Go.ChangeAt Go.RowKit
set_option linter.unusedVariables false

theorem sblk_z {w : World} {b i : Nat} {c : Array Value} {t : TypeId} (h : w.heap[b]? = some (.cells c t)) : w.frozen? ⟨b, i, none⟩ = false := by simp [World.frozen?, h]
theorem sblk_set2 {w : World} {b : Nat} {y0 y1 : Value} {t : TypeId} (h : w.heap[b]? = some (.cells #[y0, y1] t)) (x y : Value) : ((w.setCell ⟨b, 0, none⟩ x).setCell ⟨b, 1, none⟩ y).heap[b]? = some (.cells #[x, y] t) := by
  simp [World.setCell, Array.getElem?_modify, h]
/-- A row of tests. -/
def TRow (B : Nat) (w : World) (v : Value) (ts : List Tst) : Prop := ∃ a c, v = .slice a ts.length c ∧ (a = none → c = 0) ∧ ts.length ≤ c ∧ c ≤ maxLen ∧ (0 < ts.length → ∃ g off, a = some ⟨g, off, none⟩ ∧ g < B ∧ ∀ (j : Nat) (hj : j < ts.length), w.cell? ⟨g, off + j, none⟩ = some ts[j].1)
theorem TRow.keep {B : Nat} {w w' : World} {v : Value} {ts : List Tst} (h : TRow B w v ts) (b : Below B w w') : TRow B w' v ts := by
  obtain ⟨a, c, e, h1, h2, h3, h4⟩ := h
  refine ⟨a, c, e, h1, h2, h3, fun hp => ?_⟩
  obtain ⟨g, off, ea, hg, hc⟩ := h4 hp
  exact ⟨g, off, ea, hg, fun j hj => (b.cell (p := ⟨g, off + j, none⟩) hg).trans (hc j hj)⟩
theorem TRow.mono {B C : Nat} {w : World} {v : Value} {ts : List Tst} (h : TRow B w v ts) (b : B ≤ C) : TRow C w v ts := by
  obtain ⟨a, c, e, h1, h2, h3, h4⟩ := h
  refine ⟨a, c, e, h1, h2, h3, fun hp => ?_⟩
  obtain ⟨g, off, ea, hg, hc⟩ := h4 hp
  exact ⟨g, off, ea, Nat.lt_of_lt_of_le hg b, hc⟩
theorem TRow.len {B : Nat} {w : World} {a : Option Addr} {n c : Nat} {ts : List Tst} (h : TRow B w (.slice a n c) ts) : ts.length = n ∧ n ≤ c ∧ c ≤ maxLen := by
  obtain ⟨a', c', e, h1, h2, h3, _⟩ := h
  obtain ⟨rfl, rfl, rfl⟩ := slice_inj e
  exact ⟨rfl, h2, h3⟩

set_option maxRecDepth 100000 in
set_option maxHeartbeats 1000000 in
theorem idx_test (P : Tst → Bool) (p0 : Nat) (xs : List Tst) (a : Option Addr) (c : Nat) (w : World) (hf : TRow w.heap.size w (.slice a xs.length c) xs)
    (HF : ∀ (k : Nat) (hk : k < xs.length) (W : World), Below w.heap.size w W → Calls Tryz.prog 78 #[xs[k].1, .pointer (some ⟨p0, 0, none⟩)] W fun e w' => e = .returned (.bool (P xs[k])) ∧ Below W.heap.size W w') :
    Calls Tryz.prog 118 #[.slice a xs.length c, .func (.func 78) #[] #[.pointer (some ⟨p0, 0, none⟩)]] w fun e w' => e = .returned (.int .i64 (idxP P xs)) ∧ Below w.heap.size w w' := by
  have hlm := hf.len
  unfold maxLen at hlm
  rcases Nat.eq_zero_or_pos xs.length with h0 | hp
  · have he : xs = [] := List.eq_nil_of_length_eq_zero h0
    subst he
    clear hf h0 hlm HF
    go_enter Tryz.func118, Tryz.ntmps118
    go_wp2_with fail
    refine wp_loop_rounds 1 ?_
    rw [rounds_succ]
    go_wp2
    go_ret
    exact ⟨rfl, Below.refl _ _⟩
  · obtain ⟨a', c', e, hnil, q1, q2, q3⟩ := hf
    obtain ⟨rfl, _, rfl⟩ := slice_inj e
    obtain ⟨g, off, rfl, hg, hc⟩ := q3 hp
    have HC : Hid (∀ (j : Nat) (hj : j < xs.length), w.cell? ⟨g, off + j, none⟩ = some xs[j].1) := hc
    have HFH : Hid (∀ (k : Nat) (hk : k < xs.length) (W : World), Below w.heap.size w W → Calls Tryz.prog 78 #[xs[k].1, .pointer (some ⟨p0, 0, none⟩)] W fun e w' => e = .returned (.bool (P xs[k])) ∧ Below W.heap.size W w') := HF
    have hln : xs.length ≤ 9223372036854775807 := by omega
    clear e hnil q1 q2 q3 hlm hc HF
    go_enter Tryz.func118, Tryz.ntmps118
    go_wp2_with fail
    go_loopw [8] (fun vi wr => ∃ k : Nat, k ≤ xs.length ∧ vi = .int .i64 k ∧ Hid ((xs.take k).any P = false) ∧ Below w.heap.size w wr) (fun vi _ => xs.length - (intOf vi).toNat)
    case atStart => exact ⟨0, Nat.zero_le _, rfl, rfl, Below.refl _ _⟩
    case round =>
      obtain ⟨k, hk, rfl, hA, hB⟩ := hrel
      by_cases hlt : k < xs.length
      · have hc1 := (hB.cell (p := ⟨g, off + k, none⟩) hg).trans (HC.out k hlt)
        have HA : Hid (Calls Tryz.prog 78 #[xs[k].1, .pointer (some ⟨p0, 0, none⟩)] wr fun e w' => e = .returned (.bool (P xs[k])) ∧ Below wr.heap.size wr w') := HFH.out k hlt wr hB
        have hY : Hid (P xs[k] = true → idxP P xs = k) := fun q => idxP_at P xs k hlt hA.out q
        have hN : Hid (P xs[k] = false → (xs.take (k + 1)).any P = false) := fun q => any_snoc hlt hA.out q
        generalize P xs[k] = b at *
        generalize xs[k] = x at *
        go_wp2_with fail
        refine HA.out.mono ?_
        rintro e w2 ⟨rfl, B2⟩
        have hB2 := hB.trans (B2.mono hB.size)
        clear HA hB B2 hc1
        cases b
        · have hN2 : Hid ((xs.take (k + 1)).any P = false) := hN.out rfl
          clear hN hY
          go_wp2
          go_roundw
          case rel => exact ⟨k + 1, by omega, by go_num, hN2, hB2⟩
          case measure => simp [intOf]; omega
        · have hY2 : Hid (idxP P xs = k) := hY.out rfl
          clear hN hY
          go_wp2
          go_ret
          exact ⟨ret_i hY2.out.symm, hB2⟩
      · have hk' : k = xs.length := by omega
        have h := hA.out
        rw [hk', List.take_length] at h
        have HI : Hid (idxP P xs = -1) := idxP_none P xs h
        clear h hk'
        go_wp2
        go_ret
        exact ⟨ret_i HI.out.symm, hB⟩

set_option maxHeartbeats 1000000 in
theorem cont_test (P : Tst → Bool) (p0 : Nat) (xs : List Tst) (a : Option Addr) (c : Nat) (w : World) (hf : TRow w.heap.size w (.slice a xs.length c) xs)
    (HF : ∀ (k : Nat) (hk : k < xs.length) (W : World), Below w.heap.size w W → Calls Tryz.prog 78 #[xs[k].1, .pointer (some ⟨p0, 0, none⟩)] W fun e w' => e = .returned (.bool (P xs[k])) ∧ Below W.heap.size W w') :
    Calls Tryz.prog 77 #[.slice a xs.length c, .func (.func 78) #[] #[.pointer (some ⟨p0, 0, none⟩)]] w fun e w' => e = .returned (.bool (xs.any P)) ∧ Below w.heap.size w w' := by
  have HI : Hid (Calls Tryz.prog 118 #[.slice a xs.length c, .func (.func 78) #[] #[.pointer (some ⟨p0, 0, none⟩)]] w fun e w' => e = .returned (.int .i64 (idxP P xs)) ∧ Below w.heap.size w w') := idx_test P p0 xs a c w hf HF
  have HD : Hid (decide (0 ≤ idxP P xs) = xs.any P) := idxP_any P xs
  clear hf HF
  generalize idxP P xs = i at *
  generalize xs.any P = t at *
  go_enter Tryz.func77, Tryz.ntmps77
  go_wp2_with fail
  refine HI.out.mono ?_
  rintro e w2 ⟨rfl, B2⟩
  go_wp2
  go_ret
  exact ⟨ret_b HD.out, B2⟩

/-- Those tests of which one passes. -/
def anyP (ts : List Tst) (n : ByteArray) : Bool := ts.any (fun t => t.2 n)
theorem cont_tests (ts : List Tst) (a : Option Addr) (c : Nat) (n v : ByteArray) (fb : Nat) (w : World) (hf : TRow w.heap.size w (.slice a ts.length c) ts) (ht : ∀ t ∈ ts, TestAt w t) (h : w.heap[fb]? = some (.cells #[.string n, .string v] 34)) (hn : n.size ≤ 140737488355328) :
    Calls Tryz.prog 77 #[.slice a ts.length c, .func (.func 78) #[] #[.pointer (some ⟨fb, 0, none⟩)]] w fun e w' => e = .returned (.bool (anyP ts n)) ∧ Below w.heap.size w w' :=
  cont_test (fun t => t.2 n) fb ts a c w hf (fun k hk W B => scwithout1_any ts[k] n v fb W ((ht _ (List.getElem_mem hk)).below B) (tblk_below h B) hn)
set_option maxRecDepth 100000 in
set_option maxHeartbeats 1000000 in
theorem scclone_any (n v : ByteArray) (w : World) (hn : n.size ≤ 281474976710656) (hv : v.size ≤ 281474976710656) :
    Calls Tryz.prog 38 #[.agg #[.string n, .string v]] w fun e w' => e = .returned (.agg #[.string n, .string v]) ∧ Below w.heap.size w w' := by
  have W0 : Below w.heap.size w ((w.alloc (.cells #[.string n, .string v] 34)).alloc (.cells #[.string ⟨#[]⟩, .string ⟨#[]⟩] 34)) := ((Below.refl _ _).alloc (Nat.le_refl _) _).alloc (by simp) _
  have hb : ((w.alloc (.cells #[.string n, .string v] 34)).alloc (.cells #[.string ⟨#[]⟩, .string ⟨#[]⟩] 34)).heap[w.heap.size]? = some (.cells #[.string n, .string v] 34) := (Below.heap_alloc _ _ _ (by simp)).trans (tblk_new _ _)
  have hr : ((w.alloc (.cells #[.string n, .string v] 34)).alloc (.cells #[.string ⟨#[]⟩, .string ⟨#[]⟩] 34)).heap[w.heap.size + 1]? = some (.cells #[.string ⟨#[]⟩, .string ⟨#[]⟩] 34) := by
    have k := tblk_new (w.alloc (.cells #[.string n, .string v] 34)) (.cells #[.string ⟨#[]⟩, .string ⟨#[]⟩] 34)
    rw [show (w.alloc (.cells #[.string n, .string v] 34)).heap.size = w.heap.size + 1 by simp] at k
    exact k
  have HN : Hid (∀ W, Calls Tryz.prog 44 #[.string n] W fun e w' => e = .returned (.string n) ∧ Below W.heap.size W w') := fun W => clone_any n W hn
  have HV : Hid (∀ W, Calls Tryz.prog 44 #[.string v] W fun e w' => e = .returned (.string v) ∧ Below W.heap.size W w') := fun W => clone_any v W hv
  clear hn hv
  go_enter Tryz.func38, Tryz.ntmps38
  go_upto_region 1 with fail
  generalize ((w.alloc (.cells #[.string n, .string v] 34)).alloc (.cells #[.string ⟨#[]⟩, .string ⟨#[]⟩] 34)) = w0 at *
  have HS : Hid (∀ W, Below w0.heap.size w0 W → W.cell? ⟨w.heap.size, 0, none⟩ = some (.string n) ∧ W.cell? ⟨w.heap.size, 1, none⟩ = some (.string v) ∧ W.cell? ⟨w.heap.size + 1, 0, none⟩ = some (.string ⟨#[]⟩) ∧ W.cell? ⟨w.heap.size + 1, 1, none⟩ = some (.string ⟨#[]⟩) ∧ W.frozen? ⟨w.heap.size + 1, 0, none⟩ = false ∧ W.frozen? ⟨w.heap.size + 1, 1, none⟩ = false) := fun W B =>
    ⟨tblk_cell (tblk_below hb B) rfl, tblk_cell (tblk_below hb B) rfl, tblk_cell (tblk_below hr B) rfl, tblk_cell (tblk_below hr B) rfl, sblk_z (tblk_below hr B), sblk_z (tblk_below hr B)⟩
  have HD := (Below.refl w0.heap.size w0).drew
  have HN2 : Hid (∀ W, Below w0.heap.size w0 W → Calls Tryz.prog 44 #[.string n] W fun e w' => e = .returned (.string n) ∧ Below w0.heap.size w0 w') := fun W B => (HN.out W).mono fun e w' ⟨e1, e2⟩ => ⟨e1, B.trans (e2.mono B.size)⟩
  have HV2 : Hid (∀ W, Below w0.heap.size w0 W → Calls Tryz.prog 44 #[.string v] W fun e w' => e = .returned (.string v) ∧ Below w0.heap.size w0 w') := fun W B => (HV.out W).mono fun e w' ⟨e1, e2⟩ => ⟨e1, B.trans (e2.mono B.size)⟩
  have hB := HD
  have HSD := HS.out _ HD
  obtain ⟨x0, x1, x2, x3, x4, x5⟩ := HSD
  go_region_with (first | (go_at_call 44; first | (refine (HN2.out _ hB).mono ?_; clear hB; rintro e w9 ⟨rfl, hB⟩; have HSD := HS.out _ hB; obtain ⟨x0, x1, x2, x3, x4, x5⟩ := HSD) | (refine (HV2.out _ hB).mono ?_; clear hB; rintro e w9 ⟨rfl, hB⟩; have HSD := HS.out _ hB; obtain ⟨x0, x1, x2, x3, x4, x5⟩ := HSD)))
  all_goals
    have hr9 := sblk_set2 (tblk_below hr hB) (.string n) (.string v)
    have r0 := tblk_cell (i := 0) (v := .string n) hr9 rfl
    have r1 := tblk_cell (i := 1) (v := .string v) hr9 rfl
    have HBB := hidS (((W0.trans (hB.mono W0.size)).setCell (p := ⟨w.heap.size + 1, 0, none⟩) (Nat.le_succ _) (.string n)).setCell (p := ⟨w.heap.size + 1, 1, none⟩) (Nat.le_succ _) (.string v))
    clear hr9 HS HN HV HN2 HV2 hb hr W0 HD hB
    go_wp2
    refine bodyPost_ret (v := .agg #[.string n, .string v]) (by simp [results, Tryz.results38, go_sem, r0, r1]) rfl ?_
    exact ⟨rfl, HBB.out⟩
end Go.Proofs.YtajfjjmabncldaaGreatDoor

/- Scrub: without, names, lengthOf, hasBody, withClose. -/
namespace Go.Proofs.YtajfjjmabncldaaGreatDoor
open Go.ChangeShapes Go.WideShapes Go.ChangeAt Go.RowKit
set_option linter.unusedVariables false

/-- The fields whose names pass no test. -/
def leftF (fs : Fs) (ts : List Tst) : Fs := fs.filter (fun f => !anyP ts f.1)
theorem leftF_snoc (fs : Fs) (f : ByteArray × ByteArray) (ts : List Tst) : leftF (fs ++ [f]) ts = leftF fs ts ++ (if anyP ts f.1 = true then [] else [f]) := by
  unfold leftF
  rw [List.filter_append]
  congr 1
  cases h : anyP ts f.1 <;> simp [h]
theorem leftF_len (fs : Fs) (ts : List Tst) : (leftF fs ts).length ≤ fs.length := List.length_filter_le _ _
set_option maxRecDepth 100000 in
set_option maxHeartbeats 1000000 in
theorem scwithout_any (fs : Fs) (a : Option Addr) (c : Nat) (ts : List Tst) (b : Option Addr) (d : Nat) (w : World) (hf : Fds w.heap.size w (.slice a fs.length c) fs) (hb : FBd 140737488355328 fs) (hl : fs.length ≤ 16777216) (hr : TRow w.heap.size w (.slice b ts.length d) ts) (ht : ∀ t ∈ ts, TestAt w t) :
    Calls Tryz.prog 39 #[.slice a fs.length c, .slice b ts.length d] w fun e w' => ∃ ao cv, e = .returned (.slice ao (leftF fs ts).length cv) ∧ OwnF w.heap.size w' (.slice ao (leftF fs ts).length cv) (leftF fs ts) ∧ Below w.heap.size w w' := by
  have hmf : ∀ (fn : Fn) (first cap : Array Value) (w : World), (Instr.makeFunc fn first cap).run Tryz.prog w = .ok (.func fn first cap) w := fun _ _ _ _ => rfl
  have HR : Hid (TRow w.heap.size w (.slice b ts.length d) ts) := hr
  have HT : Hid (∀ t ∈ ts, TestAt w t) := ht
  clear hr ht
  rcases Nat.eq_zero_or_pos fs.length with h0 | hp
  · have he : fs = [] := List.eq_nil_of_length_eq_zero h0
    subst he
    clear hf hb hl h0 HR HT
    go_enter Tryz.func39, Tryz.ntmps39
    go_wp2_with fail
    refine wp_loop_rounds 1 ?_
    rw [rounds_succ]
    go_wp2
    go_ret
    exact ⟨none, 0, rfl, OwnF.nil _ _, Below.refl _ _⟩
  · obtain ⟨a', c', e, hnil, h1, h2, h3⟩ := hf
    obtain ⟨rfl, _, rfl⟩ := slice_inj e
    obtain ⟨g, off, rfl, hg, hc⟩ := h3 hp
    have HC : Hid (∀ (j : Nat) (hj : j < fs.length), w.cell? ⟨g, off + j * 2, none⟩ = some (.string fs[j].1) ∧ w.cell? ⟨g, off + j * 2 + 1, none⟩ = some (.string fs[j].2)) := hc
    have HBD : Hid (FBd 140737488355328 fs) := hb
    clear e hnil h1 h2 h3 hc hb
    go_enter Tryz.func39, Tryz.ntmps39
    go_wp2_with fail
    go_loopw [5, 10] (fun v vi wr => ∃ (k : Nat) (ao : Option Addr) (cv : Nat), k ≤ fs.length ∧ vi = .int .i64 k ∧ v = .slice ao (leftF (fs.take k) ts).length cv ∧ Hid (OwnF w.heap.size wr v (leftF (fs.take k) ts)) ∧ Below w.heap.size w wr) (fun _ vi _ => fs.length - (intOf vi).toNat)
    case atStart => exact ⟨0, none, 0, Nat.zero_le _, rfl, rfl, OwnF.nil _ _, Below.refl _ _⟩
    case round =>
      obtain ⟨k, ao, cv, hk, rfl, rfl, hown, hB⟩ := hrel
      by_cases hlt : k < fs.length
      · have hc1 := (hB.cell (p := ⟨g, off + k * 2, none⟩) hg).trans (HC.out k hlt).1
        have hc2 := (hB.cell (p := ⟨g, off + k * 2 + 1, none⟩) hg).trans (HC.out k hlt).2
        have hsz := HBD.out fs[k] (List.getElem_mem hlt)
        have hsn : Hid (leftF (fs.take (k + 1)) ts = leftF (fs.take k) ts ++ (if anyP ts fs[k].1 = true then [] else [fs[k]])) := by
          rw [Hid, List.take_succ_eq_append_getElem hlt, leftF_snoc]
        have hkl : (leftF (fs.take k) ts).length ≤ k := Nat.le_trans (leftF_len _ _) (List.length_take_le _ _)
        generalize fs[k] = f at *
        obtain ⟨fn, fv⟩ := f
        simp only at hc1 hc2 hsz hsn
        have U : Below wr.heap.size wr (wr.alloc (.cells #[.string fn, .string fv] 34)) := (Below.refl _ _).alloc (Nat.le_refl _) _
        have hB1 := hB.trans (U.mono hB.size)
        have hfb := tblk_new wr (.cells #[.string fn, .string fv] 34)
        have HA := hidS (cont_tests ts b d fn fv wr.heap.size _ ((HR.out.keep hB1).mono hB1.size) (fun t q => (HT.out t q).below hB1) hfb hsz.1)
        have HCL : Hid (∀ W, Calls Tryz.prog 38 #[.agg #[.string fn, .string fv]] W fun e w' => e = .returned (.agg #[.string fn, .string fv]) ∧ Below W.heap.size W w') := fun W => scclone_any fn fv W (by omega) (by omega)
        have HO : Hid (OwnF w.heap.size (wr.alloc (.cells #[.string fn, .string fv] 34)) (.slice ao (leftF (fs.take k) ts).length cv) (leftF (fs.take k) ts)) := hown.out.keep U
        have HKL : Hid ((leftF (fs.take k) ts).length ≤ 16777216) := by rw [Hid]; omega
        clear hsz hown hkl U hB
        go_upto_region 5 with fail
        clear hc1 hc2
        generalize anyP ts fn = t at *
        generalize leftF (fs.take k) ts = K at *
        generalize (wr.alloc (.cells #[.string fn, .string fv] 34)) = w1 at *
        go_wp2_with fail
        refine HA.out.mono ?_
        rintro e w2 ⟨rfl, B2⟩
        have own2 := HO.out.keep B2
        have hB2 := hB1.trans (B2.mono hB1.size)
        have hfb2 := tblk_below hfb B2
        have c0 : w2.cell? ⟨wr.heap.size, 0, none⟩ = some (.string fn) := tblk_cell hfb2 rfl
        have c1 : w2.cell? ⟨wr.heap.size, 1, none⟩ = some (.string fv) := tblk_cell hfb2 rfl
        clear B2 hB1 HO HA hfb hfb2
        cases t
        · have hsn2 : Hid (leftF (fs.take (k + 1)) ts = K ++ [(fn, fv)]) := by rw [Hid, hsn.out, if_neg (by decide)]
          clear hsn
          have HO2 := hidS own2
          have HB2 := hidS hB2
          clear own2 hB2
          go_wp2_with fail
          refine (HCL.out w2).mono ?_
          rintro e w3 ⟨rfl, B3⟩
          have own3 := (HO2.out.keep B3).keep ((Below.refl _ _).alloc (Nat.le_refl _) (.cells #[.string fn, .string fv] 34))
          have hB3 := HB2.out.trans (B3.mono HB2.out.size)
          obtain ⟨v4, w4, r4, own4, B4⟩ := ownF_append own3 (fds_new w3 fn fv) (by have := HKL.out; simp; omega) (by have := hB3.size; simp; omega)
          have hB4 : Below w.heap.size w w4 := (hB3.alloc hB3.size _).trans B4
          obtain ⟨a4, c4, rfl, _⟩ := own4.form
          have HO4 : Hid (OwnF w.heap.size w4 (.slice a4 (K ++ [(fn, fv)]).length c4) (K ++ [(fn, fv)])) := own4
          have HR4 : Hid _ := r4
          have HL : Hid ((K ++ [(fn, fv)]).length = (leftF (fs.take (k + 1)) ts).length) := by rw [Hid, hsn2.out]
          clear own3 own4 B4 B3 hB3 r4 HO2 HB2
          generalize (K ++ [(fn, fv)]).length = L at *
          go_wp2_with (at_builtin; refine wpList_append_run2 rfl _ _ 22 22 rfl _ _ _ w4 rfl rfl HR4.out ?_)
          go_roundw
          case rel => exact ⟨k + 1, a4, c4, by omega, by go_num, by rw [HL.out], by rw [hsn2.out]; exact HO4.out, hB4⟩
          case measure => simp [intOf]; omega
        · have hsn2 : Hid (leftF (fs.take (k + 1)) ts = K) := by rw [Hid, hsn.out, if_pos rfl, List.append_nil]
          clear hsn c0 c1
          have HO2 := hidS own2
          clear own2
          go_wp2
          go_roundw
          case rel => exact ⟨k + 1, ao, cv, by omega, by go_num, by rw [hsn2.out], by rw [hsn2.out]; exact HO2.out, hB2⟩
          case measure => simp [intOf]; omega
      · have hk' : k = fs.length := by omega
        subst hk'
        rw [List.take_length] at *
        have HO := hown.out
        have HOO := hidS HO
        clear HO hown
        go_wp2
        go_ret
        exact ⟨ao, cv, rfl, HOO.out, hB⟩
end Go.Proofs.YtajfjjmabncldaaGreatDoor

/- Scrub: names, lengthOf, hasBody, withClose; Hop and Own. -/
namespace Go.Proofs.YtajfjjmabncldaaGreatDoor
open Go.ChangeShapes Go.WideShapes Go.ChangeAt Go.RowKit
set_option linter.unusedVariables false

def namesF (fs : Fs) : List ByteArray := fs.map (·.1)
set_option maxRecDepth 100000 in
set_option maxHeartbeats 1000000 in
theorem scnames_any (fs : Fs) (a : Option Addr) (c : Nat) (w : World) (hf : Fds w.heap.size w (.slice a fs.length c) fs) (hl : fs.length ≤ 16777216) :
    Calls Tryz.prog 41 #[.slice a fs.length c] w fun e w' => ∃ ao co, e = .returned (.slice ao (namesF fs).length co) ∧ OwnT w.heap.size w' (.slice ao (namesF fs).length co) (namesF fs) ∧ Below w.heap.size w w' := by
  rcases Nat.eq_zero_or_pos fs.length with h0 | hp
  · have he : fs = [] := List.eq_nil_of_length_eq_zero h0
    subst he
    clear hf hl h0
    go_enter Tryz.func41, Tryz.ntmps41
    go_wp2_with fail
    refine wp_loop_rounds 1 ?_
    rw [rounds_succ]
    go_wp2
    go_ret
    exact ⟨none, 0, rfl, OwnT.nil _ _, Below.refl _ _⟩
  · obtain ⟨a', c', e, hnil, h1, h2, h3⟩ := hf
    obtain ⟨rfl, _, rfl⟩ := slice_inj e
    obtain ⟨g, off, rfl, hg, hc⟩ := h3 hp
    have HC : Hid (∀ (j : Nat) (hj : j < fs.length), w.cell? ⟨g, off + j * 2, none⟩ = some (.string fs[j].1) ∧ w.cell? ⟨g, off + j * 2 + 1, none⟩ = some (.string fs[j].2)) := hc
    clear e hnil h1 h2 h3 hc
    go_enter Tryz.func41, Tryz.ntmps41
    go_wp2_with fail
    go_loopw [3, 8] (fun v3 vi wr => ∃ (k : Nat) (ao : Option Addr) (co : Nat), k ≤ fs.length ∧ vi = .int .i64 k ∧ v3 = .slice ao k co ∧ Hid (OwnT w.heap.size wr v3 (namesF (fs.take k))) ∧ Below w.heap.size w wr) (fun _ vi _ => fs.length - (intOf vi).toNat)
    case atStart => exact ⟨0, none, 0, Nat.zero_le _, rfl, rfl, OwnT.nil _ _, Below.refl _ _⟩
    case round =>
      obtain ⟨k, ao, co, hk, rfl, rfl, hO, hB⟩ := hrel
      by_cases hlt : k < fs.length
      · have hc1 := (hB.cell (p := ⟨g, off + k * 2, none⟩) hg).trans (HC.out k hlt).1
        have hc2 := (hB.cell (p := ⟨g, off + k * 2 + 1, none⟩) hg).trans (HC.out k hlt).2
        have hsn : Hid (namesF (fs.take (k + 1)) = namesF (fs.take k) ++ [fs[k].1]) := by
          rw [Hid, List.take_succ_eq_append_getElem hlt]; unfold namesF; rw [List.map_append]; rfl
        have hnl : Hid ((namesF (fs.take (k + 1))).length = k + 1) := by rw [Hid]; simp [namesF]; omega
        have hnk : Hid ((namesF (fs.take k)).length = k) := by rw [Hid]; simp [namesF]; omega
        generalize fs[k] = f at *
        obtain ⟨fn, fv⟩ := f
        simp only at hc1 hc2 hsn
        have U : Below wr.heap.size wr (wr.alloc (.cells #[.string fn, .string fv] 34)) := (Below.refl _ _).alloc (Nat.le_refl _) _
        have V := (Below.refl (wr.alloc (.cells #[.string fn, .string fv] 34)).heap.size (wr.alloc (.cells #[.string fn, .string fv] 34))).alloc (Nat.le_refl _) (.cells #[.string fn] 9)
        have hs1 : (wr.alloc (.cells #[.string fn, .string fv] 34)).heap.size = wr.heap.size + 1 := by simp
        have OT : Txs (wr.heap.size + 2) ((wr.alloc (.cells #[.string fn, .string fv] 34)).alloc (.cells #[.string fn] 9)) (.slice (some ⟨wr.heap.size + 1, 0, none⟩) 1 1) [fn] := by
          have k := tblk_new (wr.alloc (.cells #[.string fn, .string fv] 34)) (.cells #[.string fn] 9)
          rw [hs1] at k
          exact ⟨_, 1, rfl, (fun e => by cases e), Nat.le_refl _, by decide, fun _ => ⟨_, 0, rfl, by omega, fun j hj => by
            have : j = 0 := by simpa using hj
            subst this
            exact tblk_cell k rfl⟩⟩
        obtain ⟨v3, w3, r3, O3, B3⟩ := ownT_append ((hO.out.keep U).keep V) OT (by rw [hnk.out]; show _ + 1 ≤ _; omega) (by have := hB.size; have := U.size; have := V.size; omega)
        rw [← hsn.out] at O3
        obtain ⟨a3, k3, hv3, _⟩ := O3.form
        rw [hnl.out] at hv3
        subst hv3
        have hB3 := ((hB.trans (U.mono hB.size)).trans (V.mono (by have := hB.size; have := U.size; omega))).trans B3
        have HO3 := hidS O3
        have HR3 := hidS r3
        clear O3 r3 OT U V hB B3 hO hs1
        go_wp2_with (at_builtin; refine wpList_append_run2 rfl _ _ 28 28 rfl _ _ _ w3 rfl rfl HR3.out ?_)
        go_roundw
        case rel => exact ⟨k + 1, a3, k3, by omega, by go_num, by go_num, HO3.out, hB3⟩
        case measure => simp [intOf]; omega
      · have hk' : k = fs.length := by omega
        subst hk'
        rw [List.take_length] at hO
        have hn : (namesF fs).length = fs.length := by simp [namesF]
        have HN := hidS hn
        clear hn
        go_wp2
        go_ret
        exact ⟨ao, co, by rw [HN.out]; rfl, by rw [HN.out]; exact hO.out, hB⟩
def lenN : ByteArray := ⟨#[67, 111, 110, 116, 101, 110, 116, 45, 76, 101, 110, 103, 116, 104]⟩
theorem sclen_any (a : Option Addr) (n c : Nat) (w : World) (hn : n ≤ 9223372036854775807) (ht : PowT w) :
    Calls Tryz.prog 43 #[.slice a n c] w fun e w' => e = .returned (.agg #[.string lenN, .string (itoaS n)]) ∧ Below w.heap.size w w' := by
  have U : Below w.heap.size w (w.alloc (.cells #[.string ⟨#[]⟩, .string ⟨#[]⟩] 34)) := (Below.refl _ _).alloc (Nat.le_refl _) _
  have h0 := tblk_new w (.cells #[.string ⟨#[]⟩, .string ⟨#[]⟩] 34)
  have HT := hidS (text_any n (by omega) (by omega) (w.alloc (.cells #[.string ⟨#[]⟩, .string ⟨#[]⟩] 34)) (ht.below U))
  clear ht
  unfold lenN
  go_enter Tryz.func43, Tryz.ntmps43
  go_upto_region 1 with fail
  generalize (w.alloc (.cells #[.string ⟨#[]⟩, .string ⟨#[]⟩] 34)) = w1 at *
  go_wp2_with fail
  refine HT.out.mono ?_
  rintro e w2 ⟨rfl, B2⟩
  have h2 := tblk_below h0 B2
  have x0 : w2.cell? ⟨w.heap.size, 0, none⟩ = some (.string ⟨#[]⟩) := tblk_cell h2 rfl
  have x1 : w2.cell? ⟨w.heap.size, 1, none⟩ = some (.string ⟨#[]⟩) := tblk_cell h2 rfl
  have z0 := sblk_z (i := 0) h2
  have z1 := sblk_z (i := 1) h2
  have h3 := sblk_set2 h2 (.string ⟨#[67, 111, 110, 116, 101, 110, 116, 45, 76, 101, 110, 103, 116, 104]⟩) (.string (itoaS n))
  have r0 := tblk_cell (i := 0) (v := .string ⟨#[67, 111, 110, 116, 101, 110, 116, 45, 76, 101, 110, 103, 116, 104]⟩) h3 rfl
  have r1 := tblk_cell (i := 1) (v := .string (itoaS n)) h3 rfl
  have HBB := hidS (((U.trans (B2.mono U.size)).setCell (p := ⟨w.heap.size, 0, none⟩) (Nat.le_refl _) (.string ⟨#[67, 111, 110, 116, 101, 110, 116, 45, 76, 101, 110, 103, 116, 104]⟩)).setCell (p := ⟨w.heap.size, 1, none⟩) (Nat.le_refl _) (.string (itoaS n)))
  clear h0 h2 h3 U B2 HT hn
  go_wp2
  refine bodyPost_ret (v := .agg #[.string ⟨#[67, 111, 110, 116, 101, 110, 116, 45, 76, 101, 110, 103, 116, 104]⟩, .string (itoaS n)]) (by simp [results, Tryz.results43, go_sem, r0, r1]) rfl ?_
  exact ⟨rfl, HBB.out⟩
/-- Has a request of this method a body, be it empty? -/
def hbS (m : ByteArray) : Bool := (m.toList == [80, 79, 83, 84]) || (m.toList == [80, 85, 84]) || (m.toList == [80, 65, 84, 67, 72])
theorem schasbody_any (m : ByteArray) (w : World) : Calls Tryz.prog 42 #[.string m] w fun e w' => e = .returned (.bool (hbS m)) ∧ w' = w := by
  have HV : Hid (hbS m = ((m.toList == [80, 79, 83, 84]) || (m.toList == [80, 85, 84]) || (m.toList == [80, 65, 84, 67, 72]))) := rfl
  generalize hbS m = t at *
  go_enter Tryz.func42, Tryz.ntmps42
  rcases Bool.eq_false_or_eq_true (m.toList == [80, 79, 83, 84]) with e1 | e1
  · go_wp2
    go_ret
    exact ⟨ret_b (by rw [HV.out, e1]; rfl), rfl⟩
  · rcases Bool.eq_false_or_eq_true (m.toList == [80, 85, 84]) with e2 | e2
    · go_wp2
      go_ret
      exact ⟨ret_b (by rw [HV.out, e1, e2]; rfl), rfl⟩
    · rcases Bool.eq_false_or_eq_true (m.toList == [80, 65, 84, 67, 72]) with e3 | e3
      · go_wp2
        go_ret
        exact ⟨ret_b (by rw [HV.out, e1, e2, e3]; rfl), rfl⟩
      · go_wp2
        go_ret
        exact ⟨ret_b (by rw [HV.out, e1, e2, e3]; rfl), rfl⟩
def closeF : ByteArray × ByteArray := (connN, ⟨#[99, 108, 111, 115, 101]⟩)
/-- A response's fields, with the one that closes. -/
def withC (fs : Fs) (t : Bool) : Fs := if t = true then fs ++ [closeF] else fs
theorem ownF_app2 {B C : Nat} {w : World} {v : Value} {X Y : Fs} {a : Option Addr} {n c : Nat} (h : OwnF B w v X) (hs : Fds C w (.slice a n c) Y) (hmax : X.length + Y.length ≤ 4294967296) (hB : B ≤ w.heap.size) :
    ∃ v' w', (Builtin.append_ #[22, 22] 22 #[v, .slice a n c]).run Tryz.prog w = .ok v' w' ∧ OwnF B w' v' (X ++ Y) ∧ Below B w w' ∧ (∀ k, k < w.heap.size → some k ≠ v.ownBlock → w'.heap[k]? = w.heap[k]?) := by
  obtain ⟨i, hi, hz0, hz1, hz2⟩ := info_parts infoF
  obtain ⟨a', c', e, hnil, h1, h2, h3⟩ := hs
  obtain ⟨e1, e2, e3⟩ := slice_inj e
  subst e1 e2 e3
  have hmx : X.length + Y.length ≤ maxLen := by unfold maxLen; omega
  cases a with
  | none =>
    have hc := hnil rfl
    have hy : Y = [] := by
      rcases Nat.eq_zero_or_pos Y.length with q | q
      · exact List.eq_nil_of_length_eq_zero q
      · obtain ⟨_, _, q, _⟩ := h3 q; cases q
    subst hy hc
    exact ⟨v, w, run_append_owned_none w B 22 22 34 i 2 Tryz.underlying22 hi v _ _ h, by rw [List.append_nil]; exact h, Below.refl _ _, fun _ _ _ => rfl⟩
  | some ad =>
    obtain ⟨v', w', hr, q1, q2, q3, q4⟩ := run_append_own_at (P := Tryz.prog) w B 22 22 34 i (.agg #[.string ByteArray.empty, .string ByteArray.empty]) 2 32 Tryz.underlying22 hi hz0 hz1 hz2 rfl (by decide) v X.length (rowF X) h ad Y.length c (rowF Y) (rowF_len Y)
      (fun j u hj => by
        have hjl := (List.getElem?_eq_some_iff.1 hj).1
        rw [rowF_len] at hjl
        obtain ⟨k, off, ha, _, hc⟩ := h3 (by omega)
        have : ad = ⟨k, off, none⟩ := by simpa using ha
        subst this
        rw [addr_add]
        have r := rowF_at Y (j / 2) (by omega)
        have q := hc (j / 2) (by omega)
        rcases Nat.mod_two_eq_zero_or_one j with m | m
        · have e1 : j / 2 * 2 = j := by omega
          rw [e1] at r q
          rw [q.1, ← r.1, hj]
        · have e1 : j / 2 * 2 + 1 = j := by omega
          have e2 : off + j / 2 * 2 + 1 = off + j := by omega
          rw [e1] at r
          rw [e2] at q
          rw [q.2, ← r.2, hj]) (rowF_one _) hmx (by omega) hB
    refine ⟨v', w', hr, ?_, (Below.refl _ _).grown q2 hB (fun q hq => (h.lt q hq).1), fun k hk hn => q2.block k hk hn⟩
    unfold OwnF
    rw [List.length_append, rowF_app]; exact q1
set_option maxHeartbeats 1000000 in
theorem scclose_any (B : Nat) (fs : Fs) (a : Option Addr) (c : Nat) (t : Bool) (w : World) (hf : OwnF B w (.slice a fs.length c) fs) (hl : fs.length ≤ 16777216) (hB : B ≤ w.heap.size) :
    Calls Tryz.prog 50 #[.slice a fs.length c, .bool t] w fun e w' => ∃ ao co, e = .returned (.slice ao (withC fs t).length co) ∧ OwnF B w' (.slice ao (withC fs t).length co) (withC fs t) ∧ Below B w w' ∧ (∀ k, k < w.heap.size → (∀ ad, a = some ad → k ≠ ad.block) → w'.heap[k]? = w.heap[k]?) := by
  cases t
  · have HF := hidS hf
    have e0 : withC fs false = fs := rfl
    rw [e0]
    clear hf e0
    go_enter Tryz.func50, Tryz.ntmps50
    go_wp2
    go_ret
    exact ⟨a, c, rfl, HF.out, Below.refl _ _, fun _ _ _ => rfl⟩
  · have e0 : withC fs true = fs ++ [closeF] := rfl
    rw [e0]
    have U : Below w.heap.size w (w.alloc (.cells #[.string connN, .string ⟨#[99, 108, 111, 115, 101]⟩] 34)) := (Below.refl _ _).alloc (Nat.le_refl _) _
    obtain ⟨v4, w4, r4, own4, B4, K4⟩ := ownF_app2 (hf.keep U) (fds_new w connN ⟨#[99, 108, 111, 115, 101]⟩) (by simp; omega) (by simp; omega)
    have HK : Hid (∀ k, k < w.heap.size → (∀ ad, a = some ad → k ≠ ad.block) → w4.heap[k]? = w.heap[k]?) := fun k hk hn => (K4 k (Nat.lt_of_lt_of_le hk U.size) (fun e => by
      cases a with
      | none => cases e
      | some ad => exact hn ad rfl (Option.some.inj e))).trans (U.block k hk)
    obtain ⟨a4, c4, rfl, _⟩ := own4.form
    have HO := hidS own4
    have HR := hidS r4
    have HB := hidS ((U.mono hB).trans B4)
    clear own4 r4 U B4 e0 hf K4
    unfold connN at HR
    go_enter Tryz.func50, Tryz.ntmps50
    go_wp2_with (at_builtin; refine wpList_append_run2 rfl _ _ 22 22 rfl _ _ _ w4 rfl rfl HR.out ?_)
    go_ret
    exact ⟨a4, c4, by simp, HO.out, HB.out, HK.out⟩
end Go.Proofs.YtajfjjmabncldaaGreatDoor

/- line.Reason; scrub's Hop and Own (written by scf.py). -/
namespace Go.Proofs.YtajfjjmabncldaaGreatDoor
open Go.ChangeShapes Go.WideShapes Go.ChangeAt Go.RowKit
set_option linter.unusedVariables false

def codesR : List (Int × ByteArray) := [(200, ⟨#[79, 75]⟩), (204, ⟨#[78, 111, 32, 67, 111, 110, 116, 101, 110, 116]⟩), (400, ⟨#[66, 97, 100, 32, 82, 101, 113, 117, 101, 115, 116]⟩), (404, ⟨#[78, 111, 116, 32, 70, 111, 117, 110, 100]⟩), (413, ⟨#[67, 111, 110, 116, 101, 110, 116, 32, 84, 111, 111, 32, 76, 97, 114, 103, 101]⟩), (414, ⟨#[85, 82, 73, 32, 84, 111, 111, 32, 76, 111, 110, 103]⟩), (421, ⟨#[77, 105, 115, 100, 105, 114, 101, 99, 116, 101, 100, 32, 82, 101, 113, 117, 101, 115, 116]⟩), (429, ⟨#[84, 111, 111, 32, 77, 97, 110, 121, 32, 82, 101, 113, 117, 101, 115, 116, 115]⟩), (431, ⟨#[82, 101, 113, 117, 101, 115, 116, 32, 72, 101, 97, 100, 101, 114, 32, 70, 105, 101, 108, 100, 115, 32, 84, 111, 111, 32, 76, 97, 114, 103, 101]⟩), (501, ⟨#[78, 111, 116, 32, 73, 109, 112, 108, 101, 109, 101, 110, 116, 101, 100]⟩), (502, ⟨#[66, 97, 100, 32, 71, 97, 116, 101, 119, 97, 121]⟩), (503, ⟨#[83, 101, 114, 118, 105, 99, 101, 32, 85, 110, 97, 118, 97, 105, 108, 97, 98, 108, 101]⟩), (504, ⟨#[71, 97, 116, 101, 119, 97, 121, 32, 84, 105, 109, 101, 111, 117, 116]⟩), (505, ⟨#[72, 84, 84, 80, 32, 86, 101, 114, 115, 105, 111, 110, 32, 78, 111, 116, 32, 83, 117, 112, 112, 111, 114, 116, 101, 100]⟩)]
def reasonIn (c : Int) : List (Int × ByteArray) → ByteArray
  | [] => ⟨#[83, 116, 97, 116, 117, 115]⟩
  | x :: l => if c = x.1 then x.2 else reasonIn c l
/-- What is said beside a status. -/
def reasonS (c : Int) : ByteArray := reasonIn c codesR
theorem ret_sB {a b : ByteArray} (h : a = b) : Ending.returned (.string a) = .returned (.string b) := by rw [h]
set_option maxRecDepth 100000 in
set_option maxHeartbeats 1000000 in
theorem lreason_any (c : Int) (w : World) : Calls Tryz.prog 52 #[.int .i64 c] w fun e w' => e = .returned (.string (reasonS c)) ∧ w' = w := by
  by_cases e0 : c = 200
  · have HK : Hid (reasonS c = ⟨#[79, 75]⟩) := by rw [Hid]; unfold reasonS codesR; rw [reasonIn, if_pos e0]
    subst e0
    go_enter Tryz.func52, Tryz.ntmps52
    go_wp2
    go_ret
    exact ⟨ret_sB HK.out.symm, rfl⟩
  · skip
    by_cases e1 : c = 204
    · have HK : Hid (reasonS c = ⟨#[78, 111, 32, 67, 111, 110, 116, 101, 110, 116]⟩) := by rw [Hid]; unfold reasonS codesR; rw [reasonIn, if_neg e0]; rw [reasonIn, if_pos e1]
      subst e1
      go_enter Tryz.func52, Tryz.ntmps52
      go_wp2
      go_ret
      exact ⟨ret_sB HK.out.symm, rfl⟩
    · skip
      by_cases e2 : c = 400
      · have HK : Hid (reasonS c = ⟨#[66, 97, 100, 32, 82, 101, 113, 117, 101, 115, 116]⟩) := by rw [Hid]; unfold reasonS codesR; rw [reasonIn, if_neg e0]; rw [reasonIn, if_neg e1]; rw [reasonIn, if_pos e2]
        subst e2
        go_enter Tryz.func52, Tryz.ntmps52
        go_wp2
        go_ret
        exact ⟨ret_sB HK.out.symm, rfl⟩
      · skip
        by_cases e3 : c = 404
        · have HK : Hid (reasonS c = ⟨#[78, 111, 116, 32, 70, 111, 117, 110, 100]⟩) := by rw [Hid]; unfold reasonS codesR; rw [reasonIn, if_neg e0]; rw [reasonIn, if_neg e1]; rw [reasonIn, if_neg e2]; rw [reasonIn, if_pos e3]
          subst e3
          go_enter Tryz.func52, Tryz.ntmps52
          go_wp2
          go_ret
          exact ⟨ret_sB HK.out.symm, rfl⟩
        · skip
          by_cases e4 : c = 413
          · have HK : Hid (reasonS c = ⟨#[67, 111, 110, 116, 101, 110, 116, 32, 84, 111, 111, 32, 76, 97, 114, 103, 101]⟩) := by rw [Hid]; unfold reasonS codesR; rw [reasonIn, if_neg e0]; rw [reasonIn, if_neg e1]; rw [reasonIn, if_neg e2]; rw [reasonIn, if_neg e3]; rw [reasonIn, if_pos e4]
            subst e4
            go_enter Tryz.func52, Tryz.ntmps52
            go_wp2
            go_ret
            exact ⟨ret_sB HK.out.symm, rfl⟩
          · skip
            by_cases e5 : c = 414
            · have HK : Hid (reasonS c = ⟨#[85, 82, 73, 32, 84, 111, 111, 32, 76, 111, 110, 103]⟩) := by rw [Hid]; unfold reasonS codesR; rw [reasonIn, if_neg e0]; rw [reasonIn, if_neg e1]; rw [reasonIn, if_neg e2]; rw [reasonIn, if_neg e3]; rw [reasonIn, if_neg e4]; rw [reasonIn, if_pos e5]
              subst e5
              go_enter Tryz.func52, Tryz.ntmps52
              go_wp2
              go_ret
              exact ⟨ret_sB HK.out.symm, rfl⟩
            · skip
              by_cases e6 : c = 421
              · have HK : Hid (reasonS c = ⟨#[77, 105, 115, 100, 105, 114, 101, 99, 116, 101, 100, 32, 82, 101, 113, 117, 101, 115, 116]⟩) := by rw [Hid]; unfold reasonS codesR; rw [reasonIn, if_neg e0]; rw [reasonIn, if_neg e1]; rw [reasonIn, if_neg e2]; rw [reasonIn, if_neg e3]; rw [reasonIn, if_neg e4]; rw [reasonIn, if_neg e5]; rw [reasonIn, if_pos e6]
                subst e6
                go_enter Tryz.func52, Tryz.ntmps52
                go_wp2
                go_ret
                exact ⟨ret_sB HK.out.symm, rfl⟩
              · skip
                by_cases e7 : c = 429
                · have HK : Hid (reasonS c = ⟨#[84, 111, 111, 32, 77, 97, 110, 121, 32, 82, 101, 113, 117, 101, 115, 116, 115]⟩) := by rw [Hid]; unfold reasonS codesR; rw [reasonIn, if_neg e0]; rw [reasonIn, if_neg e1]; rw [reasonIn, if_neg e2]; rw [reasonIn, if_neg e3]; rw [reasonIn, if_neg e4]; rw [reasonIn, if_neg e5]; rw [reasonIn, if_neg e6]; rw [reasonIn, if_pos e7]
                  subst e7
                  go_enter Tryz.func52, Tryz.ntmps52
                  go_wp2
                  go_ret
                  exact ⟨ret_sB HK.out.symm, rfl⟩
                · skip
                  by_cases e8 : c = 431
                  · have HK : Hid (reasonS c = ⟨#[82, 101, 113, 117, 101, 115, 116, 32, 72, 101, 97, 100, 101, 114, 32, 70, 105, 101, 108, 100, 115, 32, 84, 111, 111, 32, 76, 97, 114, 103, 101]⟩) := by rw [Hid]; unfold reasonS codesR; rw [reasonIn, if_neg e0]; rw [reasonIn, if_neg e1]; rw [reasonIn, if_neg e2]; rw [reasonIn, if_neg e3]; rw [reasonIn, if_neg e4]; rw [reasonIn, if_neg e5]; rw [reasonIn, if_neg e6]; rw [reasonIn, if_neg e7]; rw [reasonIn, if_pos e8]
                    subst e8
                    go_enter Tryz.func52, Tryz.ntmps52
                    go_wp2
                    go_ret
                    exact ⟨ret_sB HK.out.symm, rfl⟩
                  · skip
                    by_cases e9 : c = 501
                    · have HK : Hid (reasonS c = ⟨#[78, 111, 116, 32, 73, 109, 112, 108, 101, 109, 101, 110, 116, 101, 100]⟩) := by rw [Hid]; unfold reasonS codesR; rw [reasonIn, if_neg e0]; rw [reasonIn, if_neg e1]; rw [reasonIn, if_neg e2]; rw [reasonIn, if_neg e3]; rw [reasonIn, if_neg e4]; rw [reasonIn, if_neg e5]; rw [reasonIn, if_neg e6]; rw [reasonIn, if_neg e7]; rw [reasonIn, if_neg e8]; rw [reasonIn, if_pos e9]
                      subst e9
                      go_enter Tryz.func52, Tryz.ntmps52
                      go_wp2
                      go_ret
                      exact ⟨ret_sB HK.out.symm, rfl⟩
                    · skip
                      by_cases e10 : c = 502
                      · have HK : Hid (reasonS c = ⟨#[66, 97, 100, 32, 71, 97, 116, 101, 119, 97, 121]⟩) := by rw [Hid]; unfold reasonS codesR; rw [reasonIn, if_neg e0]; rw [reasonIn, if_neg e1]; rw [reasonIn, if_neg e2]; rw [reasonIn, if_neg e3]; rw [reasonIn, if_neg e4]; rw [reasonIn, if_neg e5]; rw [reasonIn, if_neg e6]; rw [reasonIn, if_neg e7]; rw [reasonIn, if_neg e8]; rw [reasonIn, if_neg e9]; rw [reasonIn, if_pos e10]
                        subst e10
                        go_enter Tryz.func52, Tryz.ntmps52
                        go_wp2
                        go_ret
                        exact ⟨ret_sB HK.out.symm, rfl⟩
                      · skip
                        by_cases e11 : c = 503
                        · have HK : Hid (reasonS c = ⟨#[83, 101, 114, 118, 105, 99, 101, 32, 85, 110, 97, 118, 97, 105, 108, 97, 98, 108, 101]⟩) := by rw [Hid]; unfold reasonS codesR; rw [reasonIn, if_neg e0]; rw [reasonIn, if_neg e1]; rw [reasonIn, if_neg e2]; rw [reasonIn, if_neg e3]; rw [reasonIn, if_neg e4]; rw [reasonIn, if_neg e5]; rw [reasonIn, if_neg e6]; rw [reasonIn, if_neg e7]; rw [reasonIn, if_neg e8]; rw [reasonIn, if_neg e9]; rw [reasonIn, if_neg e10]; rw [reasonIn, if_pos e11]
                          subst e11
                          go_enter Tryz.func52, Tryz.ntmps52
                          go_wp2
                          go_ret
                          exact ⟨ret_sB HK.out.symm, rfl⟩
                        · skip
                          by_cases e12 : c = 504
                          · have HK : Hid (reasonS c = ⟨#[71, 97, 116, 101, 119, 97, 121, 32, 84, 105, 109, 101, 111, 117, 116]⟩) := by rw [Hid]; unfold reasonS codesR; rw [reasonIn, if_neg e0]; rw [reasonIn, if_neg e1]; rw [reasonIn, if_neg e2]; rw [reasonIn, if_neg e3]; rw [reasonIn, if_neg e4]; rw [reasonIn, if_neg e5]; rw [reasonIn, if_neg e6]; rw [reasonIn, if_neg e7]; rw [reasonIn, if_neg e8]; rw [reasonIn, if_neg e9]; rw [reasonIn, if_neg e10]; rw [reasonIn, if_neg e11]; rw [reasonIn, if_pos e12]
                            subst e12
                            go_enter Tryz.func52, Tryz.ntmps52
                            go_wp2
                            go_ret
                            exact ⟨ret_sB HK.out.symm, rfl⟩
                          · skip
                            by_cases e13 : c = 505
                            · have HK : Hid (reasonS c = ⟨#[72, 84, 84, 80, 32, 86, 101, 114, 115, 105, 111, 110, 32, 78, 111, 116, 32, 83, 117, 112, 112, 111, 114, 116, 101, 100]⟩) := by rw [Hid]; unfold reasonS codesR; rw [reasonIn, if_neg e0]; rw [reasonIn, if_neg e1]; rw [reasonIn, if_neg e2]; rw [reasonIn, if_neg e3]; rw [reasonIn, if_neg e4]; rw [reasonIn, if_neg e5]; rw [reasonIn, if_neg e6]; rw [reasonIn, if_neg e7]; rw [reasonIn, if_neg e8]; rw [reasonIn, if_neg e9]; rw [reasonIn, if_neg e10]; rw [reasonIn, if_neg e11]; rw [reasonIn, if_neg e12]; rw [reasonIn, if_pos e13]
                              subst e13
                              go_enter Tryz.func52, Tryz.ntmps52
                              go_wp2
                              go_ret
                              exact ⟨ret_sB HK.out.symm, rfl⟩
                            · skip
                              have HK : Hid (reasonS c = ⟨#[83, 116, 97, 116, 117, 115]⟩) := by rw [Hid]; unfold reasonS codesR; rw [reasonIn, if_neg e0]; rw [reasonIn, if_neg e1]; rw [reasonIn, if_neg e2]; rw [reasonIn, if_neg e3]; rw [reasonIn, if_neg e4]; rw [reasonIn, if_neg e5]; rw [reasonIn, if_neg e6]; rw [reasonIn, if_neg e7]; rw [reasonIn, if_neg e8]; rw [reasonIn, if_neg e9]; rw [reasonIn, if_neg e10]; rw [reasonIn, if_neg e11]; rw [reasonIn, if_neg e12]; rw [reasonIn, if_neg e13]; rfl
                              have b0 : (c == 200) = false := by simp [e0]
                              have b1 : (c == 204) = false := by simp [e1]
                              have b2 : (c == 400) = false := by simp [e2]
                              have b3 : (c == 404) = false := by simp [e3]
                              have b4 : (c == 413) = false := by simp [e4]
                              have b5 : (c == 414) = false := by simp [e5]
                              have b6 : (c == 421) = false := by simp [e6]
                              have b7 : (c == 429) = false := by simp [e7]
                              have b8 : (c == 431) = false := by simp [e8]
                              have b9 : (c == 501) = false := by simp [e9]
                              have b10 : (c == 502) = false := by simp [e10]
                              have b11 : (c == 503) = false := by simp [e11]
                              have b12 : (c == 504) = false := by simp [e12]
                              have b13 : (c == 505) = false := by simp [e13]
                              go_enter Tryz.func52, Tryz.ntmps52
                              go_wp2
                              go_ret
                              exact ⟨ret_sB HK.out.symm, rfl⟩
theorem ownS_one {w : World} {g B : Nat} {n v : ByteArray} (h : w.heap[g]? = some (.cells #[.string n, .string v] 34)) (hB : B ≤ g) : OwnF B w (.slice (some ⟨g, 0, none⟩) 1 1) [(n, v)] :=
  ⟨rfl, .inr ⟨g, 1, _, rfl, hB, h, Nat.le_refl _, by decide, rfl, rfl⟩⟩
/-- Five cells stored. -/
def s5 (w : World) (b : Nat) (v0 v1 v2 v3 v4 : Value) : World := ((((w.setCell ⟨b, 0, none⟩ v0).setCell ⟨b, 1, none⟩ v1).setCell ⟨b, 2, none⟩ v2).setCell ⟨b, 3, none⟩ v3).setCell ⟨b, 4, none⟩ v4
theorem s5_cells {w : World} {b : Nat} {y0 y1 y2 y3 y4 : Value} {t : TypeId} (h : w.heap[b]? = some (.cells #[y0, y1, y2, y3, y4] t)) (v0 v1 v2 v3 v4 : Value) : (s5 w b v0 v1 v2 v3 v4).heap[b]? = some (.cells #[v0, v1, v2, v3, v4] t) := by
  unfold s5
  simp [World.setCell, Array.getElem?_modify, h]
theorem s5_below {B : Nat} {w w' : World} {b : Nat} (v0 v1 v2 v3 v4 : Value) (C : Below B w w') (hb : B ≤ b) : Below B w (s5 w' b v0 v1 v2 v3 v4) := by
  unfold s5
  exact ((((C.setCell (p := ⟨b, 0, none⟩) hb _).setCell (p := ⟨b, 1, none⟩) hb _).setCell (p := ⟨b, 2, none⟩) hb _).setCell (p := ⟨b, 3, none⟩) hb _).setCell (p := ⟨b, 4, none⟩) hb _
theorem s5_away {w : World} {b k : Nat} {v0 v1 v2 v3 v4 : Value} (h : k ≠ b) : (s5 w b v0 v1 v2 v3 v4).heap[k]? = w.heap[k]? := by
  unfold s5
  simp [World.setCell, Array.getElem?_modify, Ne.symm h]
theorem s5_size {w : World} {b : Nat} (v0 v1 v2 v3 v4 : Value) : (s5 w b v0 v1 v2 v3 v4).heap.size = w.heap.size := by
  unfold s5
  simp [World.setCell]
theorem OwnF.awayS {B : Nat} {w w' : World} {v : Value} {fs : Fs} (h : OwnF B w v fs) (hk : ∀ k, B ≤ k → k < w.heap.size → w'.heap[k]? = w.heap[k]?) : OwnF B w' v fs := by
  obtain ⟨e, h⟩ := h
  refine ⟨e, ?_⟩
  rcases h with h | ⟨g, c, row, e1, h1, h2, h3, h4, h5⟩
  · exact .inl h
  · exact .inr ⟨g, c, row, e1, h1, (hk g h1 (Array.getElem?_eq_some_iff.1 h2).1).trans h2, h3, h4, h5⟩
def ownFs (t : Bool) : Fs := withC [(lenN, itoaS 0)] t
set_option maxRecDepth 100000 in
set_option maxHeartbeats 1000000 in
theorem scown_any (code : Int) (t : Bool) (w : World) (ht : PowT w) :
    Calls Tryz.prog 19 #[.int .i64 code, .bool t] w fun e w' => ∃ ao co, e = .returned (.agg #[.int .i64 code, .string (reasonS code), .int .i64 1, .slice ao (ownFs t).length co, .slice none 0 0]) ∧ OwnF (w.heap.size + 1) w' (.slice ao (ownFs t).length co) (ownFs t) ∧ Below w.heap.size w w' := by
  have U : Below w.heap.size w (w.alloc (.cells #[.int .i64 0, .string ⟨#[]⟩, .int .i64 0, .slice none 0 0, .slice none 0 0] 40)) := (Below.refl _ _).alloc (Nat.le_refl _) _
  have h0 := tblk_new w (.cells #[.int .i64 0, .string ⟨#[]⟩, .int .i64 0, .slice none 0 0, .slice none 0 0] 40)
  have hs1 : (w.alloc (.cells #[.int .i64 0, .string ⟨#[]⟩, .int .i64 0, .slice none 0 0, .slice none 0 0] 40)).heap.size = w.heap.size + 1 := by simp
  have HL := hidS (sclen_any none 0 0 (w.alloc (.cells #[.int .i64 0, .string ⟨#[]⟩, .int .i64 0, .slice none 0 0, .slice none 0 0] 40)) (by decide) (ht.below U))
  have HR : Hid (∀ W, Calls Tryz.prog 52 #[.int .i64 code] W fun e w' => e = .returned (.string (reasonS code)) ∧ w' = W) := fun W => lreason_any code W
  clear ht
  generalize reasonS code = rs at *
  obtain ⟨fs, hfs⟩ : ∃ fs, ownFs t = fs := ⟨_, rfl⟩
  rw [hfs]
  have HFS : Hid (withC [(lenN, itoaS ((0 : Nat) : Int))] t = fs) := hfs
  clear hfs
  go_enter Tryz.func19, Tryz.ntmps19
  go_upto_region 1 with fail
  generalize (w.alloc (.cells #[.int .i64 0, .string ⟨#[]⟩, .int .i64 0, .slice none 0 0, .slice none 0 0] 40)) = w1 at *
  go_wp2_with fail
  refine HL.out.mono ?_
  rintro e w2 ⟨rfl, B2⟩
  have hs2 := B2.size
  have h2 := tblk_below h0 B2
  have U2 : Below w2.heap.size w2 (w2.alloc (.cells #[.string lenN, .string (itoaS ((0 : Nat) : Int))] 34)) := (Below.refl _ _).alloc (Nat.le_refl _) _
  have o2 := ownS_one (B := w.heap.size + 1) (tblk_new w2 (.cells #[.string lenN, .string (itoaS ((0 : Nat) : Int))] 34)) (by omega)
  have h3 := tblk_below h2 U2
  have HB3 := hidS ((U.trans (B2.mono U.size)).trans (U2.mono (by have := U.size; omega)))
  have hs3 := U2.size
  clear HL B2 U U2 h0 h2
  go_upto_region 2 with fail
  generalize (w2.alloc (.cells #[.string lenN, .string (itoaS ((0 : Nat) : Int))] 34)) = w3 at *
  have HC := hidS (scclose_any (w.heap.size + 1) [(lenN, itoaS ((0 : Nat) : Int))] _ _ t w3 o2 (by decide) (by omega))
  rw [HFS.out] at HC
  clear o2
  go_wp2_with fail
  refine (HR.out _).mono ?_
  rintro e w4 ⟨rfl, h4⟩
  rw [h4]
  clear h4 HR
  go_wp2_with fail
  refine HC.out.mono ?_
  rintro e w5 ⟨ao, co, rfl, O5, B5, _⟩
  have h5 : w5.heap[w.heap.size]? = some (.cells #[.int .i64 0, .string ⟨#[]⟩, .int .i64 0, .slice none 0 0, .slice none 0 0] 40) := (B5.block _ (by omega)).trans h3
  have HB5 := HB3.out.trans (B5.mono (by omega))
  have c0 : w5.cell? ⟨w.heap.size, 0, none⟩ = some (.int .i64 0) := tblk_cell h5 rfl
  have c1 : w5.cell? ⟨w.heap.size, 1, none⟩ = some (.string ⟨#[]⟩) := tblk_cell h5 rfl
  have c2 : w5.cell? ⟨w.heap.size, 2, none⟩ = some (.int .i64 0) := tblk_cell h5 rfl
  have c3 : w5.cell? ⟨w.heap.size, 3, none⟩ = some (.slice none 0 0) := tblk_cell h5 rfl
  have c4 : w5.cell? ⟨w.heap.size, 4, none⟩ = some (.slice none 0 0) := tblk_cell h5 rfl
  have z0 := sblk_z (i := 0) h5
  have z1 := sblk_z (i := 1) h5
  have z2 := sblk_z (i := 2) h5
  have z3 := sblk_z (i := 3) h5
  have z4 := sblk_z (i := 4) h5
  have h6 := s5_cells h5 (.int .i64 code) (.string rs) (.int .i64 1) (.slice ao fs.length co) (.slice none 0 0)
  have r0 := tblk_cell (i := 0) (v := .int .i64 code) h6 rfl
  have r1 := tblk_cell (i := 1) (v := .string rs) h6 rfl
  have r2 := tblk_cell (i := 2) (v := .int .i64 1) h6 rfl
  have r3 := tblk_cell (i := 3) (v := .slice ao fs.length co) h6 rfl
  have r4 := tblk_cell (i := 4) (v := .slice none 0 0) h6 rfl
  have HB6 := hidS (s5_below (.int .i64 code) (.string rs) (.int .i64 1) (.slice ao fs.length co) (.slice none 0 0) HB5 (Nat.le_refl _))
  have HO6 := hidS (O5.awayS (w' := s5 w5 w.heap.size (.int .i64 code) (.string rs) (.int .i64 1) (.slice ao fs.length co) (.slice none 0 0)) (fun k hk _ => s5_away (by omega)))
  unfold s5 at r0 r1 r2 r3 r4 HB6 HO6
  clear h3 h5 h6 O5 B5 HB3 HB5 HC hs1 hs2 hs3
  go_wp2
  refine bodyPost_ret (v := .agg #[.int .i64 code, .string rs, .int .i64 1, .slice ao fs.length co, .slice none 0 0]) (by simp [results, Tryz.results19, go_sem, r0, r1, r2, r3, r4]) rfl ?_
  exact ⟨ao, co, rfl, HO6.out, HB6.out⟩
theorem schop_name (fs : Fs) (a : Option Addr) (c : Nat) (n : ByteArray) (w : World) (hf : Fds w.heap.size w (.slice a fs.length c) fs) (hb : FBd 1048576 fs) (hl : fs.length ≤ 1024) (hn : n.size ≤ 140737488355328) (hM : MaxL w) :
    Calls Tryz.prog 11 #[.slice a fs.length c, .string n] w fun e w' => e = .returned (.bool (hopP (listF fs connN) n)) ∧ Below w.heap.size w w' := by
  have HH := hidS (schop_any fs a c w hf hb hl hM)
  clear hf hb hl hM
  obtain ⟨t, ht⟩ : ∃ t, hopP (listF fs connN) n = t := ⟨_, rfl⟩
  rw [ht]
  have HT := hidS ht
  clear ht
  go_enter Tryz.func11, Tryz.ntmps11
  go_wp2_with fail
  refine HH.out.mono ?_
  rintro e w1 ⟨p, rfl, hp1, hp2, A1, B1⟩
  have HA := hidS (schop1_any n p _ w1 A1 hn)
  rw [HT.out] at HA
  clear HH A1 hn
  go_wp2_with fail
  refine HA.out.mono ?_
  rintro e w2 ⟨rfl, B2⟩
  have HB := hidS (B1.trans (B2.mono B1.size))
  clear HA B1 B2
  go_wp2
  go_ret
  exact ⟨rfl, HB.out⟩
end Go.Proofs.YtajfjjmabncldaaGreatDoor

/- Scrub: Request. -/
namespace Go.Proofs.YtajfjjmabncldaaGreatDoor
open Go.ChangeShapes Go.WideShapes Go.ChangeAt Go.RowKit
set_option linter.unusedVariables false

def hostN : ByteArray := ⟨#[72, 111, 115, 116]⟩
/-- What doesn't go on of a request. -/
def outP (rf : Fs) (drop : List ByteArray) (set : Fs) (n : ByteArray) : Bool := hopP (listF rf connN) n || (hasK drop n || (hasK (namesF set) n || false))
def keepF (rf : Fs) (P : ByteArray → Bool) : Fs := rf.filter (fun f => !P f.1)
/-- The fields that are sent. -/
def sentF (rf : Fs) (drop : List ByteArray) (set : Fs) (host m : ByteArray) (n : Nat) : Fs := [(hostN, host)] ++ keepF rf (outP rf drop set) ++ set ++ (if 0 < n ∨ hbS m = true then [(lenN, itoaS (n : Int))] else [])
theorem leftF_nil (fs : Fs) : leftF fs [] = fs := by
  unfold leftF anyP
  simp
theorem Own.awayS {B : Nat} {w w' : World} {v : Value} {X : List UInt8} (h : Own B w v X) (hk : ∀ k, B ≤ k → k < w.heap.size → w'.heap[k]? = w.heap[k]?) : Own B w' v X := by
  obtain ⟨e, h⟩ := h
  refine ⟨e, ?_⟩
  rcases h with h | ⟨g, c, row, e1, h1, h2, h3, h4, h5⟩
  · exact .inl h
  · exact .inr ⟨g, c, row, e1, h1, (hk g h1 (Array.getElem?_eq_some_iff.1 h2).1).trans h2, h3, h4, h5⟩
theorem step_app {ops : Array Oper} {o : Oper} {a : Act} {K : Act → World → Prop} {Q : Exit → Act → World → Prop} {E : Prop} {w w' : World} {v' : Value} {t : TypeId} (hgd : o.guard = none) (s x : Operand)
    (ho : o.op = .call { callee := .builtin .append, args := #[s, x], argTypes := #[t, t] }) (hty : o.type = t) (vs vx : Value) (hs : a.eval s = vs) (hx : a.eval x = vx)
    (hr : (Builtin.append_ #[t, t] t #[vs, vx]).run Tryz.prog w = .ok v' w') (hK : K (a.put o.dst v') w') :
    if Region.wanted o (yielded ops a.tmps) = true then Oper.wp Tryz.prog o a w K Q else E := by
  have hw : Region.wanted o (yielded ops a.tmps) = true := by simp [Region.wanted, hgd]
  rw [if_pos hw]
  unfold Oper.wp execOp
  simp only [ho, hty, resolve, invoke, builtin, Sem.run_bind, Sem.run_pure, Result.andThen_ok, List.map_toArray, List.map_cons, List.map_nil, hs, hx, hr]
  exact hK
set_option maxRecDepth 100000 in
set_option maxHeartbeats 4000000 in
theorem screq_any (m tg host target : ByteArray) (minor tot tri fai coo : Int) (rf set : Fs) (drop : List ByteArray) (body : List UInt8) (fa ba sa da ua ra : Option Addr) (fc bc sc dc un uc rn rc kb : Nat) (w : World)
    (hf : Fds w.heap.size w (.slice fa rf.length fc) rf) (hs : Fds w.heap.size w (.slice sa set.length sc) set) (hd : Txs w.heap.size w (.slice da drop.length dc) drop) (hb : Src w kb (.slice ba body.length bc) body) (hkb : 0 < body.length → kb < w.heap.size)
    (bf : FBd 1048576 rf) (bs : FBd 1048576 set) (bd : TBd 1048576 drop) (bm : m.size ≤ 1048576) (bh : host.size ≤ 1048576) (bt : target.size ≤ 1048576) (bb : body.length ≤ 1048576) (lf : rf.length ≤ 1024) (ls : set.length ≤ 1024) (hM : MaxL w) (hP : PowT w) :
    Calls Tryz.prog 14 #[.agg #[.string m, .string tg, .int .i64 minor, .slice fa rf.length fc, .slice ba body.length bc], .agg #[.slice ua un uc, .slice ra rn rc, .slice sa set.length sc, .slice da drop.length dc, .int .i64 tot, .int .i64 tri, .int .i64 fai, .int .i64 coo], .string host, .string target] w
      fun e w' => ∃ ao co bo cb, e = .returned (.agg #[.string m, .string target, .int .i64 1, .slice ao (sentF rf drop set host m body.length).length co, .slice bo body.length cb]) ∧
        OwnF w.heap.size w' (.slice ao (sentF rf drop set host m body.length).length co) (sentF rf drop set host m body.length) ∧ Own w.heap.size w' (.slice bo body.length cb) body ∧ Below w.heap.size w w' := by
  obtain ⟨SN, hSN⟩ : ∃ x, sentF rf drop set host m body.length = x := ⟨_, rfl⟩
  rw [hSN]
  have HSN := hidS hSN
  clear hSN
  have hmf : ∀ (fn : Fn) (first cap : Array Value) (w : World), (Instr.makeFunc fn first cap).run Tryz.prog w = .ok (.func fn first cap) w := fun _ _ _ _ => rfl
  have W0a : Below w.heap.size w (w.alloc (.cells #[.string m, .string tg, .int .i64 minor, .slice fa rf.length fc, .slice ba body.length bc] 25)) := (Below.refl _ _).alloc (Nat.le_refl _) _
  have W0b := W0a.alloc W0a.size (.cells #[.slice ua un uc, .slice ra rn rc, .slice sa set.length sc, .slice da drop.length dc, .int .i64 tot, .int .i64 tri, .int .i64 fai, .int .i64 coo] 30)
  have W0 := W0b.alloc W0b.size (.cells #[.string ⟨#[]⟩, .string ⟨#[]⟩, .int .i64 0, .slice none 0 0, .slice none 0 0] 25)
  clear W0a W0b
  have k1 : (((w.alloc (.cells #[.string m, .string tg, .int .i64 minor, .slice fa rf.length fc, .slice ba body.length bc] 25)).alloc (.cells #[.slice ua un uc, .slice ra rn rc, .slice sa set.length sc, .slice da drop.length dc, .int .i64 tot, .int .i64 tri, .int .i64 fai, .int .i64 coo] 30)).alloc (.cells #[.string ⟨#[]⟩, .string ⟨#[]⟩, .int .i64 0, .slice none 0 0, .slice none 0 0] 25)).heap[w.heap.size]? = some (.cells #[.string m, .string tg, .int .i64 minor, .slice fa rf.length fc, .slice ba body.length bc] 25) := (Below.heap_alloc _ _ _ (by simp <;> omega)).trans ((Below.heap_alloc _ _ _ (by simp)).trans (tblk_new _ _))
  have k2 : (((w.alloc (.cells #[.string m, .string tg, .int .i64 minor, .slice fa rf.length fc, .slice ba body.length bc] 25)).alloc (.cells #[.slice ua un uc, .slice ra rn rc, .slice sa set.length sc, .slice da drop.length dc, .int .i64 tot, .int .i64 tri, .int .i64 fai, .int .i64 coo] 30)).alloc (.cells #[.string ⟨#[]⟩, .string ⟨#[]⟩, .int .i64 0, .slice none 0 0, .slice none 0 0] 25)).heap[w.heap.size + 1]? = some (.cells #[.slice ua un uc, .slice ra rn rc, .slice sa set.length sc, .slice da drop.length dc, .int .i64 tot, .int .i64 tri, .int .i64 fai, .int .i64 coo] 30) := by
    have k := tblk_new (w.alloc (.cells #[.string m, .string tg, .int .i64 minor, .slice fa rf.length fc, .slice ba body.length bc] 25)) (.cells #[.slice ua un uc, .slice ra rn rc, .slice sa set.length sc, .slice da drop.length dc, .int .i64 tot, .int .i64 tri, .int .i64 fai, .int .i64 coo] 30)
    rw [show (w.alloc (.cells #[.string m, .string tg, .int .i64 minor, .slice fa rf.length fc, .slice ba body.length bc] 25)).heap.size = w.heap.size + 1 by simp] at k
    exact (Below.heap_alloc _ _ _ (by simp)).trans k
  have k3 : (((w.alloc (.cells #[.string m, .string tg, .int .i64 minor, .slice fa rf.length fc, .slice ba body.length bc] 25)).alloc (.cells #[.slice ua un uc, .slice ra rn rc, .slice sa set.length sc, .slice da drop.length dc, .int .i64 tot, .int .i64 tri, .int .i64 fai, .int .i64 coo] 30)).alloc (.cells #[.string ⟨#[]⟩, .string ⟨#[]⟩, .int .i64 0, .slice none 0 0, .slice none 0 0] 25)).heap[w.heap.size + 2]? = some (.cells #[.string ⟨#[]⟩, .string ⟨#[]⟩, .int .i64 0, .slice none 0 0, .slice none 0 0] 25) := by
    have k := tblk_new ((w.alloc (.cells #[.string m, .string tg, .int .i64 minor, .slice fa rf.length fc, .slice ba body.length bc] 25)).alloc (.cells #[.slice ua un uc, .slice ra rn rc, .slice sa set.length sc, .slice da drop.length dc, .int .i64 tot, .int .i64 tri, .int .i64 fai, .int .i64 coo] 30)) (.cells #[.string ⟨#[]⟩, .string ⟨#[]⟩, .int .i64 0, .slice none 0 0, .slice none 0 0] 25)
    rw [show ((w.alloc (.cells #[.string m, .string tg, .int .i64 minor, .slice fa rf.length fc, .slice ba body.length bc] 25)).alloc (.cells #[.slice ua un uc, .slice ra rn rc, .slice sa set.length sc, .slice da drop.length dc, .int .i64 tot, .int .i64 tri, .int .i64 fai, .int .i64 coo] 30)).heap.size = w.heap.size + 2 by simp] at k
    exact k
  have hs1 : (((w.alloc (.cells #[.string m, .string tg, .int .i64 minor, .slice fa rf.length fc, .slice ba body.length bc] 25)).alloc (.cells #[.slice ua un uc, .slice ra rn rc, .slice sa set.length sc, .slice da drop.length dc, .int .i64 tot, .int .i64 tri, .int .i64 fai, .int .i64 coo] 30)).alloc (.cells #[.string ⟨#[]⟩, .string ⟨#[]⟩, .int .i64 0, .slice none 0 0, .slice none 0 0] 25)).heap.size = w.heap.size + 3 := by simp
  have HF := hidS hf
  have HSE := hidS hs
  have HDR := hidS hd
  have HBO : Hid (∀ W, Below w.heap.size w W → Calls Tryz.prog 45 #[.slice ba body.length bc] W fun e w' => ∃ v', e = .returned v' ∧ Own W.heap.size w' v' body ∧ Below W.heap.size W w') := fun W B => bclone_any body kb _ _ _ W (hb.keep hkb B) (fun q => Nat.lt_of_lt_of_le (hkb q) B.size) (by omega)
  have HM := hidS hM
  have HP := hidS hP
  have BF := hidS bf
  have BS := hidS bs
  have BD : Hid (TBd 140737488355328 drop) := fun x hx => Nat.le_trans (bd x hx) (by decide)
  clear hf hs hd hb hM hP bf bs bd hkb
  go_enter Tryz.func14, Tryz.ntmps14
  go_upto_region 1 with fail
  generalize (((w.alloc (.cells #[.string m, .string tg, .int .i64 minor, .slice fa rf.length fc, .slice ba body.length bc] 25)).alloc (.cells #[.slice ua un uc, .slice ra rn rc, .slice sa set.length sc, .slice da drop.length dc, .int .i64 tot, .int .i64 tri, .int .i64 fai, .int .i64 coo] 30)).alloc (.cells #[.string ⟨#[]⟩, .string ⟨#[]⟩, .int .i64 0, .slice none 0 0, .slice none 0 0] 25)) = w1 at *
  have HCL := hidS (scclone_any hostN host w1 (by decide) (by omega))
  unfold hostN at HCL
  go_wp2_with fail
  refine HCL.out.mono ?_
  rintro e w2 ⟨rfl, B2⟩
  clear HCL
  have U2 : Below w2.heap.size w2 (w2.alloc (.cells #[.string hostN, .string host] 34)) := (Below.refl _ _).alloc (Nat.le_refl _) _
  have o2 := hidS (ownS_one (B := w.heap.size + 3) (tblk_new w2 (.cells #[.string hostN, .string host] 34)) (by have := B2.size; omega))
  have B12 := B2.trans (U2.mono B2.size)
  have k1 := tblk_below k1 B12
  have k2 := tblk_below k2 B12
  have k3 := tblk_below k3 B12
  have W2 := W0.trans (B12.mono W0.size)
  have hs3 : w.heap.size + 3 ≤ (w2.alloc (.cells #[.string hostN, .string host] 34)).heap.size := by have := B12.size; omega
  have hs2 : w2.heap.size < (w2.alloc (.cells #[.string hostN, .string host] 34)).heap.size := by simp
  clear W0 B2 U2 B12 hs1
  unfold hostN at *
  go_upto_region 2 with fail
  generalize (w2.alloc (.cells #[.string ⟨#[72, 111, 115, 116]⟩, .string host] 34)) = w3 at *
  have hst := fun (fn : Fn) (fi ca : Array Value) (a : Addr) m (w : World) => run_store Tryz.prog w a (.func fn fi ca) m rfl
  have HSC : Hid (∀ W, Below w3.heap.size w3 W → W.cell? ⟨w.heap.size, 3, none⟩ = some (.slice fa rf.length fc) ∧ W.cell? ⟨w.heap.size + 1, 2, none⟩ = some (.slice sa set.length sc) ∧ W.cell? ⟨w.heap.size + 1, 3, none⟩ = some (.slice da drop.length dc)) := fun W B => ⟨tblk_cell (tblk_below k1 B) rfl, tblk_cell (tblk_below k2 B) rfl, tblk_cell (tblk_below k2 B) rfl⟩
  have H1 : Hid (∀ W, Below w3.heap.size w3 W → Calls Tryz.prog 36 #[.slice fa rf.length fc] W fun e w' => ∃ p, e = .returned (.func (.func 75) #[] #[.pointer (some ⟨p, 0, none⟩)]) ∧ W.heap.size ≤ p ∧ p < w'.heap.size ∧ HopAt w' p (listF rf connN) ∧ Below W.heap.size W w') := fun W B => by
    have BW := W2.trans (B.mono W2.size)
    exact schop_any rf fa fc W ((HF.out.keep BW).mono BW.size) BF.out lf (HM.out.below BW)
  have H2 : Hid (∀ W, Below w3.heap.size w3 W → Calls Tryz.prog 40 #[.slice da drop.length dc] W fun e w' => ∃ p, e = .returned (.func (.func 79) #[] #[.pointer (some ⟨p, 0, none⟩)]) ∧ W.heap.size ≤ p ∧ p < w'.heap.size ∧ AmAt w' p drop ∧ Below W.heap.size W w') := fun W B => by
    have BW := W2.trans (B.mono W2.size)
    exact scamong_any drop da dc W ((HDR.out.keep BW).mono BW.size) BD.out
  have H3 : Hid (∀ W, Below w3.heap.size w3 W → Calls Tryz.prog 41 #[.slice sa set.length sc] W fun e w' => ∃ ao co, e = .returned (.slice ao (namesF set).length co) ∧ OwnT W.heap.size w' (.slice ao (namesF set).length co) (namesF set) ∧ Below W.heap.size W w') := fun W B => by
    have BW := W2.trans (B.mono W2.size)
    exact scnames_any set sa sc W ((HSE.out.keep BW).mono BW.size) (by omega)
  have HNB : Hid (TBd 140737488355328 (namesF set)) := fun x hx => by
    obtain ⟨f, hf, rfl⟩ := List.mem_map.1 hx
    exact Nat.le_trans (BS.out f hf).1 (by decide)
  have HD := (Below.refl w3.heap.size w3).drew
  have hS := HSC.out _ HD
  obtain ⟨x1, x2, x3⟩ := hS
  have HX : Hid (∀ (w8 : World) (p1 p2 p3 : Nat), Below w3.heap.size w3 w8 → HopAt w8 p1 (listF rf connN) → AmAt w8 p2 drop → AmAt w8 p3 (namesF set) → Calls Tryz.prog 39 #[.slice fa rf.length fc, .slice (some ⟨w8.heap.size, 0, none⟩) 3 3] (w8.alloc (.cells #[.func (.func 75) #[] #[.pointer (some ⟨p1, 0, none⟩)], .func (.func 79) #[] #[.pointer (some ⟨p2, 0, none⟩)], .func (.func 79) #[] #[.pointer (some ⟨p3, 0, none⟩)]] 67))
      fun e w' => ∃ ao co, e = .returned (.slice ao (keepF rf (outP rf drop set)).length co) ∧ OwnF (w8.alloc (.cells #[.func (.func 75) #[] #[.pointer (some ⟨p1, 0, none⟩)], .func (.func 79) #[] #[.pointer (some ⟨p2, 0, none⟩)], .func (.func 79) #[] #[.pointer (some ⟨p3, 0, none⟩)]] 67)).heap.size w' (.slice ao (keepF rf (outP rf drop set)).length co) (keepF rf (outP rf drop set)) ∧ Below (w8.alloc (.cells #[.func (.func 75) #[] #[.pointer (some ⟨p1, 0, none⟩)], .func (.func 79) #[] #[.pointer (some ⟨p2, 0, none⟩)], .func (.func 79) #[] #[.pointer (some ⟨p3, 0, none⟩)]] 67)).heap.size (w8.alloc (.cells #[.func (.func 75) #[] #[.pointer (some ⟨p1, 0, none⟩)], .func (.func 79) #[] #[.pointer (some ⟨p2, 0, none⟩)], .func (.func 79) #[] #[.pointer (some ⟨p3, 0, none⟩)]] 67)) w') := fun w8 p1 p2 p3 B a1 a2 a3 => by
    have U8 : Below w8.heap.size w8 (w8.alloc (.cells #[.func (.func 75) #[] #[.pointer (some ⟨p1, 0, none⟩)], .func (.func 79) #[] #[.pointer (some ⟨p2, 0, none⟩)], .func (.func 79) #[] #[.pointer (some ⟨p3, 0, none⟩)]] 67)) := (Below.refl _ _).alloc (Nat.le_refl _) _
    have BW := (W2.trans (B.mono W2.size)).trans (U8.mono (W2.trans (B.mono W2.size)).size)
    have hb := tblk_new w8 (.cells #[.func (.func 75) #[] #[.pointer (some ⟨p1, 0, none⟩)], .func (.func 79) #[] #[.pointer (some ⟨p2, 0, none⟩)], .func (.func 79) #[] #[.pointer (some ⟨p3, 0, none⟩)]] 67)
    have k := scwithout_any rf fa fc [(hopV p1, hopP (listF rf connN)), (amongV p2, hasK drop), (amongV p3, hasK (namesF set))] (some ⟨w8.heap.size, 0, none⟩) 3 (w8.alloc (.cells #[.func (.func 75) #[] #[.pointer (some ⟨p1, 0, none⟩)], .func (.func 79) #[] #[.pointer (some ⟨p2, 0, none⟩)], .func (.func 79) #[] #[.pointer (some ⟨p3, 0, none⟩)]] 67)) ((HF.out.keep BW).mono BW.size) (fun f hf => ⟨Nat.le_trans (BF.out f hf).1 (by decide), Nat.le_trans (BF.out f hf).2 (by decide)⟩) (by omega)
      ⟨_, 3, rfl, (fun e => by cases e), Nat.le_refl _, by decide, fun _ => ⟨w8.heap.size, 0, rfl, by simp, fun j hj => by
        have hj' : j < 3 := hj
        rcases j with _ | _ | _ | j
        · exact tblk_cell hb rfl
        · exact tblk_cell hb rfl
        · exact tblk_cell hb rfl
        · omega⟩⟩
      (fun t q => by
        rcases List.mem_cons.1 q with rfl | q
        · exact ⟨p1, _, .inr ⟨rfl, rfl, a1.below U8⟩⟩
        rcases List.mem_cons.1 q with rfl | q
        · exact ⟨p2, _, .inl ⟨rfl, rfl, a2.below U8⟩⟩
        rcases List.mem_cons.1 q with rfl | q
        · exact ⟨p3, _, .inl ⟨rfl, rfl, a3.below U8⟩⟩
        cases q)
    exact k
  clear hst
  have HKL : Hid ((keepF rf (outP rf drop set)).length ≤ 1024) := Nat.le_trans (List.length_filter_le _ _) lf
  have HAP : Hid (∀ (w9 : World) (ao : Option Addr) (co : Nat), Below w3.heap.size w3 w9 → Fds w9.heap.size w9 (.slice ao (keepF rf (outP rf drop set)).length co) (keepF rf (outP rf drop set)) → ∃ a10 c10 w10, (Builtin.append_ #[22, 22] 22 #[.slice (some ⟨w2.heap.size, 0, none⟩) 1 1, .slice ao (keepF rf (outP rf drop set)).length co]).run Tryz.prog w9 = .ok (.slice a10 ((keepF rf (outP rf drop set)).length + 1) c10) w10 ∧ OwnF (w.heap.size + 3) w10 (.slice a10 ((keepF rf (outP rf drop set)).length + 1) c10) ((hostN, host) :: keepF rf (outP rf drop set)) ∧ Below (w.heap.size + 3) w3 w10 ∧ w10.cell? ⟨w.heap.size, 3, none⟩ = some (.slice fa rf.length fc) ∧ w10.cell? ⟨w.heap.size + 1, 2, none⟩ = some (.slice sa set.length sc) ∧ w10.cell? ⟨w.heap.size + 1, 3, none⟩ = some (.slice da drop.length dc)) := fun w9 ao co B9 F9 => by
    have hz := B9.size
    obtain ⟨v10, w10, r10, O10, B10⟩ := ownF_append (o2.out.keep B9) F9 (by have := HKL.out; simp; omega) (by omega)
    obtain ⟨a10, c10, hv, _⟩ := O10.form
    rw [List.length_append, List.length_cons, List.length_nil, Nat.zero_add, Nat.add_comm] at hv
    subst hv
    have q1 := (B10.block _ (by omega)).trans (tblk_below k1 B9)
    have q2 := (B10.block _ (by omega)).trans (tblk_below k2 B9)
    exact ⟨a10, c10, w10, r10, O10, (B9.mono (by omega)).trans B10, tblk_cell q1 rfl, tblk_cell q2 rfl, tblk_cell q2 rfl⟩
  go_region_held3 (fun W => W.cell? ⟨w.heap.size, 3, none⟩ = some (.slice fa rf.length fc) ∧ W.cell? ⟨w.heap.size + 1, 2, none⟩ = some (.slice sa set.length sc) ∧ W.cell? ⟨w.heap.size + 1, 3, none⟩ = some (.slice da drop.length dc)) (go_keep) (first | (go_at_call 36; refine (H1.out _ HD).mono ?_; rintro e w5 ⟨p1, rfl, g1, g2, A1, B5⟩; have B5' := HD.trans (B5.mono HD.size); have hS := HSC.out _ B5') | (go_at_call 40; refine (scamong_any (namesF set) no nc w7 O7.txs HNB.out).mono ?_; rintro e w8 ⟨p3, rfl, g5, g6, A3, B8⟩; have B8' := B7'.trans (B8.mono B7'.size); have hS := HSC.out _ B8'; have hS9 := HSC.out (w8.alloc (.cells #[.func (.func 75) #[] #[.pointer (some ⟨p1, 0, none⟩)], .func (.func 79) #[] #[.pointer (some ⟨p2, 0, none⟩)], .func (.func 79) #[] #[.pointer (some ⟨p3, 0, none⟩)]] 67)) (B8'.alloc B8'.size _); have HW := hidS (HX.out w8 p1 p2 p3 B8' (A1.below (B6.trans ((B7.trans (B8.mono B7.size)).mono B6.size))) (A2.below (B7.trans (B8.mono B7.size))) A3)) | (go_at_call 41; refine (H3.out _ B6').mono ?_; rintro e w7 ⟨no, nc, rfl, O7, B7⟩; have B7' := B6'.trans (B7.mono B6'.size); have hS := HSC.out _ B7') | (go_at_call 40; refine (H2.out _ B5').mono ?_; rintro e w6 ⟨p2, rfl, g3, g4, A2, B6⟩; have B6' := B5'.trans (B6.mono B5'.size); have hS := HSC.out _ B6') | (go_at_call 39; refine HW.out.mono ?_; rintro e w9 ⟨ao, co, rfl, O9, B9⟩; have B9' := (B8'.alloc B8'.size _).trans (B9.mono (B8'.alloc B8'.size _).size); have hS9 := HSC.out w9 B9'; obtain ⟨a10, c10, w10, r10, O10, B10, hS10⟩ := HAP.out w9 ao co B9' O9.fds) | (refine step_app rfl _ _ rfl rfl _ _ rfl rfl r10 ?_))
  have W10 := W2.trans (B10.mono (Nat.le_add_right _ _))
  have hz3 : w.heap.size + 3 ≤ w10.heap.size := by have := B10.size; omega
  have j1 := (B10.block _ (by omega)).trans k1
  have j3 := (B10.block _ (by omega)).trans k3
  have HW3 := scwithout_any set sa sc [] none 0 w10 ((HSE.out.keep W10).mono W10.size) (fun f hf => ⟨Nat.le_trans (BS.out f hf).1 (by decide), Nat.le_trans (BS.out f hf).2 (by decide)⟩) (by omega) ⟨none, 0, rfl, (fun _ => rfl), Nat.le_refl _, by decide, fun q => absurd q (Nat.lt_irrefl 0)⟩ (fun t q => by cases q)
  rw [leftF_nil] at HW3
  have HW3 := hidS HW3
  have O10 := hidS O10
  obtain ⟨x1, x2, x3⟩ := hS10
  clear H1 H2 H3 HX HSC HAP HNB HW A1 A2 A3 O7 O9 B5 B5' B6 B6' B7 B7' B8 B8' B9 B9' r10 hS hS9 HD g1 g2 g3 g4 g5 g6 B10 k1 k2 k3 o2 W2 hs2 hs3
  go_wp2_with fail
  refine HW3.out.mono ?_
  rintro e w11 ⟨so, sco, rfl, O11, B11⟩
  obtain ⟨v12, w12, r12, O12, B12⟩ := ownF_append (O10.out.keep B11) O11.fds (by have := HKL.out; simp; omega) (by have := B11.size; omega)
  obtain ⟨a12, c12, rfl, _⟩ := O12.form
  have W12 := (W10.trans (B11.mono W10.size)).trans (B12.mono (Nat.le_add_right _ _))
  have hz12 : w.heap.size + 3 ≤ w12.heap.size := by have := B11.size; have := B12.size; omega
  have m1 := (B12.block _ (by omega)).trans (tblk_below j1 B11)
  have m3 := (B12.block _ (by omega)).trans (tblk_below j3 B11)
  have HR12 := hidS r12
  obtain ⟨FS, hFS⟩ : ∃ FS, (hostN, host) :: keepF rf (outP rf drop set) ++ set = FS := ⟨_, rfl⟩
  have HFS := hidS hFS
  rw [hFS] at O12 HR12
  have hFL : FS.length ≤ 4096 := by rw [← hFS]; have := HKL.out; simp; omega
  have O12 := hidS O12
  clear r12 hFS O10 O11 B11 B12 j1 j3 HW3 x1 x2 x3 W10 hz3
  go_upto_region 4 with (at_builtin; refine wpList_append_run2 rfl _ _ 22 22 rfl _ _ _ w12 rfl rfl HR12.out ?_)
  clear HR12
  have x0 : w12.cell? ⟨w.heap.size, 0, none⟩ = some (.string m) := tblk_cell m1 rfl
  have x4 : w12.cell? ⟨w.heap.size, 4, none⟩ = some (.slice ba body.length bc) := tblk_cell m1 rfl
  have H4 : Hid (∀ W, Calls Tryz.prog 42 #[.string m] W fun e w' => e = .returned (.bool (hbS m)) ∧ w' = W) := fun W => schasbody_any m W
  obtain ⟨t0, ht0⟩ : ∃ t, (decide (0 < body.length) || hbS m) = t := ⟨_, rfl⟩
  have HT0 := hidS ht0
  have HSF : Hid (FS ++ (if t0 = true then [(lenN, itoaS (body.length : Int))] else []) = SN) := by
    rw [Hid, ← HSN.out, ← HFS.out, ← ht0]
    unfold sentF
    simp
  have hSL : Hid (SN.length ≤ 5000) := by
    rw [Hid, ← HSF.out, List.length_append]
    split <;> simp <;> omega
  clear ht0 HSN
  go_cut [43] from 35 (fun v wx => v = .bool t0 ∧ wx = w12)
  case first =>
    by_cases hb0 : 0 < body.length
    · have hb1 : (0 : Int) < (body.length : Int) := by omega
      have e : t0 = true := by rw [← HT0.out]; simp [hb0]
      clear H4
      go_wp2
      go_meet
      exact ⟨by rw [e], rfl⟩
    · have hb1 : ¬ (0 : Int) < (body.length : Int) := by omega
      have e : Hid (hbS m = t0) := by rw [Hid, ← HT0.out]; simp [hb0]
      go_wp2_with fail
      refine (H4.out _).mono ?_
      rintro e w13 ⟨rfl, h13⟩
      rw [h13]
      clear h13 H4
      go_wp2_with fail
      go_meet
      exact ⟨by rw [e.out], rfl⟩
  case rest =>
    obtain ⟨rfl, rfl⟩ := hcut
    clear H4 x0 HT0
    have HL := hidS (sclen_any ba body.length bc wc (by omega) (HP.out.below W12))
    have M1 := hidS m1
    have M3 := hidS m3
    have HW := hidS W12
    clear m1 m3 W12
    go_upto_if 43 with fail
    go_cut [9] from 44 (fun v wx => ∃ a14 c14, v = .slice a14 SN.length c14 ∧ Hid (OwnF (w.heap.size + 3) wx (.slice a14 SN.length c14) SN) ∧ Hid (Below w.heap.size w wx) ∧ Hid (wx.heap[w.heap.size]? = some (.cells #[.string m, .string tg, .int .i64 minor, .slice fa rf.length fc, .slice ba body.length bc] 25)) ∧ Hid (wx.heap[w.heap.size + 2]? = some (.cells #[.string ⟨#[]⟩, .string ⟨#[]⟩, .int .i64 0, .slice none 0 0, .slice none 0 0] 25)))
    case first =>
      cases t0
      · have e : FS = SN := by rw [← HSF.out]; simp
        subst e
        go_wp2_with fail
        go_meet
        exact ⟨_, _, rfl, O12.out, HW.out, M1.out, M3.out⟩
      · have e : FS ++ [(lenN, itoaS (body.length : Int))] = SN := by rw [← HSF.out]; simp
        go_wp2_with fail
        refine HL.out.mono ?_
        rintro e1 w13 ⟨rfl, B13⟩
        have U : Below w13.heap.size w13 (w13.alloc (.cells #[.string lenN, .string (itoaS (body.length : Int))] 34)) := (Below.refl _ _).alloc (Nat.le_refl _) _
        have hq := B13.size
        have hq2 := U.size
        obtain ⟨v14, w14, r14, O14, B14⟩ := ownF_append ((O12.out.keep B13).keep U) (fds_new w13 lenN (itoaS (body.length : Int))) (by simp; omega) (by omega)
        rw [e] at O14
        obtain ⟨a14, c14, rfl, _⟩ := O14.form
        have W14 := hidS (((HW.out.trans (B13.mono HW.out.size)).trans (U.mono (by omega))).trans (B14.mono (Nat.le_add_right _ _)))
        have q1 := hidS ((B14.block _ (by omega)).trans (tblk_below (tblk_below M1.out B13) U))
        have q3 := hidS ((B14.block _ (by omega)).trans (tblk_below (tblk_below M3.out B13) U))
        have HR14 := hidS r14
        have O14 := hidS O14
        clear r14 B13 B14 U HL O12 HW M1 M3 e
        unfold lenN at HR14
        go_wp2_with (first | (at_builtin; refine wpList_append_run2 rfl _ _ 22 22 rfl _ _ _ w14 rfl rfl HR14.out ?_))
        go_meet
        exact ⟨_, _, rfl, O14.out, W14.out, q1.out, q3.out⟩
    case rest =>
      obtain ⟨a14, c14, rfl, HO, HWW, HQ1, HQ3⟩ := hcut
      have HMM := HM.out.below HWW.out
      have hzc := heap_lt HQ3.out
      have HSC : Hid (∀ W, Below wc.heap.size wc W → W.cell? ⟨w.heap.size, 0, none⟩ = some (.string m) ∧ W.cell? ⟨w.heap.size, 4, none⟩ = some (.slice ba body.length bc)) := fun W B => ⟨tblk_cell (tblk_below HQ1.out B) rfl, tblk_cell (tblk_below HQ1.out B) rfl⟩
      have HN : Hid (∀ W, Below wc.heap.size wc W → Calls Tryz.prog 44 #[.string m] W fun e w' => e = .returned (.string m) ∧ Below wc.heap.size wc w') := fun W B => (clone_any m W (by omega)).mono fun e w' ⟨e1, e2⟩ => ⟨e1, B.trans (e2.mono B.size)⟩
      have HT : Hid (∀ W, Below wc.heap.size wc W → Calls Tryz.prog 44 #[.string target] W fun e w' => e = .returned (.string target) ∧ Below wc.heap.size wc w') := fun W B => (clone_any target W (by omega)).mono fun e w' ⟨e1, e2⟩ => ⟨e1, B.trans (e2.mono B.size)⟩
      have HBC : Hid (∀ W, Below wc.heap.size wc W → Calls Tryz.prog 45 #[.slice ba body.length bc] W fun e w' => ∃ bo cb, e = .returned (.slice bo body.length cb) ∧ Own (w.heap.size + 3) w' (.slice bo body.length cb) body ∧ Below wc.heap.size wc w') := fun W B =>
        (HBO.out W (HWW.out.trans (B.mono HWW.out.size))).mono fun e w' ⟨v', e1, e2, e3⟩ => by
          obtain ⟨bo, cb, rfl, _⟩ := e2.form
          exact ⟨bo, cb, e1, e2.mono (by have := B.size; omega), B.trans (e3.mono B.size)⟩
      have HFI : Hid (∀ (wz : World) (bo : Option Addr) (cb : Nat), Below wc.heap.size wc wz → Own (w.heap.size + 3) wz (.slice bo body.length cb) body → wz.heap[w.heap.size + 2]? = some (.cells #[.string ⟨#[]⟩, .string ⟨#[]⟩, .int .i64 0, .slice none 0 0, .slice none 0 0] 25) ∧ OwnF (w.heap.size + 3) (s5 wz (w.heap.size + 2) (.string m) (.string target) (.int .i64 1) (.slice a14 SN.length c14) (.slice bo body.length cb)) (.slice a14 SN.length c14) SN ∧ Own (w.heap.size + 3) (s5 wz (w.heap.size + 2) (.string m) (.string target) (.int .i64 1) (.slice a14 SN.length c14) (.slice bo body.length cb)) (.slice bo body.length cb) body ∧ Below w.heap.size w (s5 wz (w.heap.size + 2) (.string m) (.string target) (.int .i64 1) (.slice a14 SN.length c14) (.slice bo body.length cb)) ∧ (s5 wz (w.heap.size + 2) (.string m) (.string target) (.int .i64 1) (.slice a14 SN.length c14) (.slice bo body.length cb)).heap[w.heap.size + 2]? = some (.cells #[.string m, .string target, .int .i64 1, .slice a14 SN.length c14, .slice bo body.length cb] 25)) := fun wz bo cb B O => by
        have h := tblk_below HQ3.out B
        exact ⟨h, (HO.out.keep B).awayS (fun k hk _ => s5_away (by omega)), O.awayS (fun k hk _ => s5_away (by omega)), s5_below _ _ _ _ _ (HWW.out.trans (B.mono HWW.out.size)) (Nat.le_add_right _ _), s5_cells h _ _ _ _ _⟩
      have HD := (Below.refl wc.heap.size wc).drew
      obtain ⟨x0, x4⟩ := HSC.out _ HD
      clear HMM HQ1 HQ3 HO HBO HWW hzc
      go_upto_region 6 with fail
      go_region_with (first | (go_at_call 44; refine (HT.out _ hBm).mono ?_; rintro e w20 ⟨rfl, hBt⟩; obtain ⟨x0, x4⟩ := HSC.out _ hBt) | (go_at_call 44; refine (HN.out _ HD).mono ?_; rintro e w19 ⟨rfl, hBm⟩; obtain ⟨x0, x4⟩ := HSC.out _ hBm) | (go_at_call 45; refine (HBC.out _ hBt).mono ?_; rintro e w21 ⟨bo, cb, rfl, hBo, hBz⟩; obtain ⟨x0, x4⟩ := HSC.out _ hBz; obtain ⟨h3, f1, f2, f3, f4⟩ := HFI.out w21 bo cb hBz hBo; have y0 : w21.cell? ⟨w.heap.size + 2, 0, none⟩ = some (.string ⟨#[]⟩) := tblk_cell h3 rfl; have y1 : w21.cell? ⟨w.heap.size + 2, 1, none⟩ = some (.string ⟨#[]⟩) := tblk_cell h3 rfl; have y2 : w21.cell? ⟨w.heap.size + 2, 2, none⟩ = some (.int .i64 0) := tblk_cell h3 rfl; have y3 : w21.cell? ⟨w.heap.size + 2, 3, none⟩ = some (.slice none 0 0) := tblk_cell h3 rfl; have y4 : w21.cell? ⟨w.heap.size + 2, 4, none⟩ = some (.slice none 0 0) := tblk_cell h3 rfl; have z0 := sblk_z (i := 0) h3; have z1 := sblk_z (i := 1) h3; have z2 := sblk_z (i := 2) h3; have z3 := sblk_z (i := 3) h3; have z4 := sblk_z (i := 4) h3))
      all_goals
        have r0 : (((((w21.setCell ⟨w.heap.size + 1 + 1, 0, none⟩ (.string m)).setCell ⟨w.heap.size + 1 + 1, 1, none⟩ (.string target)).setCell ⟨w.heap.size + 1 + 1, 2, none⟩ (.int .i64 1)).setCell ⟨w.heap.size + 1 + 1, 3, none⟩ (.slice a14 SN.length c14)).setCell ⟨w.heap.size + 1 + 1, 4, none⟩ (.slice bo body.length cb)).cell? ⟨w.heap.size + 1 + 1, 0, none⟩ = some (.string m) := tblk_cell f4 rfl
        have r1 : (((((w21.setCell ⟨w.heap.size + 1 + 1, 0, none⟩ (.string m)).setCell ⟨w.heap.size + 1 + 1, 1, none⟩ (.string target)).setCell ⟨w.heap.size + 1 + 1, 2, none⟩ (.int .i64 1)).setCell ⟨w.heap.size + 1 + 1, 3, none⟩ (.slice a14 SN.length c14)).setCell ⟨w.heap.size + 1 + 1, 4, none⟩ (.slice bo body.length cb)).cell? ⟨w.heap.size + 1 + 1, 1, none⟩ = some (.string target) := tblk_cell f4 rfl
        have r2 : (((((w21.setCell ⟨w.heap.size + 1 + 1, 0, none⟩ (.string m)).setCell ⟨w.heap.size + 1 + 1, 1, none⟩ (.string target)).setCell ⟨w.heap.size + 1 + 1, 2, none⟩ (.int .i64 1)).setCell ⟨w.heap.size + 1 + 1, 3, none⟩ (.slice a14 SN.length c14)).setCell ⟨w.heap.size + 1 + 1, 4, none⟩ (.slice bo body.length cb)).cell? ⟨w.heap.size + 1 + 1, 2, none⟩ = some (.int .i64 1) := tblk_cell f4 rfl
        have r3 : (((((w21.setCell ⟨w.heap.size + 1 + 1, 0, none⟩ (.string m)).setCell ⟨w.heap.size + 1 + 1, 1, none⟩ (.string target)).setCell ⟨w.heap.size + 1 + 1, 2, none⟩ (.int .i64 1)).setCell ⟨w.heap.size + 1 + 1, 3, none⟩ (.slice a14 SN.length c14)).setCell ⟨w.heap.size + 1 + 1, 4, none⟩ (.slice bo body.length cb)).cell? ⟨w.heap.size + 1 + 1, 3, none⟩ = some (.slice a14 SN.length c14) := tblk_cell f4 rfl
        have r4 : (((((w21.setCell ⟨w.heap.size + 1 + 1, 0, none⟩ (.string m)).setCell ⟨w.heap.size + 1 + 1, 1, none⟩ (.string target)).setCell ⟨w.heap.size + 1 + 1, 2, none⟩ (.int .i64 1)).setCell ⟨w.heap.size + 1 + 1, 3, none⟩ (.slice a14 SN.length c14)).setCell ⟨w.heap.size + 1 + 1, 4, none⟩ (.slice bo body.length cb)).cell? ⟨w.heap.size + 1 + 1, 4, none⟩ = some (.slice bo body.length cb) := tblk_cell f4 rfl
        have HF1 := hidS f1
        have HF2 := hidS f2
        have HF3 := hidS f3
        clear f1 f2 f3 f4 h3 y0 y1 y2 y3 y4 z0 z1 z2 z3 z4 x0 x4 HSC HN HT HBC HFI HD hBm hBt hBz hBo
        go_wp2
        refine bodyPost_ret (v := .agg #[.string m, .string target, .int .i64 1, .slice a14 SN.length c14, .slice bo body.length cb]) (by simp [results, Tryz.results14, go_sem, r0, r1, r2, r3, r4]) rfl ?_
        exact ⟨a14, c14, bo, cb, rfl, HF1.out.mono (Nat.le_add_right _ _), HF2.out.mono (Nat.le_add_right _ _), HF3.out⟩
end Go.Proofs.YtajfjjmabncldaaGreatDoor

/- Scrub: Response (written by sch.py). -/
namespace Go.Proofs.YtajfjjmabncldaaGreatDoor
open Go.ChangeShapes Go.WideShapes Go.ChangeAt Go.RowKit
set_option linter.unusedVariables false

/-- Is a response's body sent? -/
def hasR (m : ByteArray) (code minor : Int) (fs : Fs) : Bool := !decide ((respF m code minor fs).1 = 0) || !(respF m code minor fs).2.2
def backF (m : ByteArray) (code minor : Int) (fs : Fs) (n : Nat) (t : Bool) : Fs := withC (keepF fs (hopP (listF fs connN)) ++ (if hasR m code minor fs = true then [(lenN, itoaS (n : Int))] else [])) t
def backB (m : ByteArray) (code minor : Int) (fs : Fs) (body : List UInt8) : List UInt8 := if hasR m code minor fs = true then body else []
set_option maxRecDepth 100000 in
set_option maxHeartbeats 4000000 in
theorem scresp_any (m reason : ByteArray) (code minor : Int) (fs : Fs) (body : List UInt8) (fa ba : Option Addr) (fc bc kb : Nat) (t : Bool) (w : World)
    (hf : Fds w.heap.size w (.slice fa fs.length fc) fs) (hb : Src w kb (.slice ba body.length bc) body) (hkb : 0 < body.length → kb < w.heap.size)
    (bf : FBd 1048576 fs) (br : reason.size ≤ 1048576) (bb : body.length ≤ 1048576) (lf : fs.length ≤ 1024) (hM : MaxL w) (hP : PowT w) :
    Calls Tryz.prog 17 #[.agg #[.int .i64 code, .string reason, .int .i64 minor, .slice fa fs.length fc, .slice ba body.length bc], .string m, .bool t] w
      fun e w' => ∃ ao co bo cb, e = .returned (.agg #[.int .i64 code, .string reason, .int .i64 1, .slice ao (backF m code minor fs body.length t).length co, .slice bo (backB m code minor fs body).length cb]) ∧
        OwnF w.heap.size w' (.slice ao (backF m code minor fs body.length t).length co) (backF m code minor fs body.length t) ∧ Own w.heap.size w' (.slice bo (backB m code minor fs body).length cb) (backB m code minor fs body) ∧ Below w.heap.size w w' := by
  have hmf : ∀ (fn : Fn) (first cap : Array Value) (w : World), (Instr.makeFunc fn first cap).run Tryz.prog w = .ok (.func fn first cap) w := fun _ _ _ _ => rfl
  obtain ⟨SN, hSN⟩ : ∃ x, backF m code minor fs body.length t = x := ⟨_, rfl⟩
  obtain ⟨BD, hBD⟩ : ∃ x, backB m code minor fs body = x := ⟨_, rfl⟩
  obtain ⟨t0, ht0⟩ : ∃ x, hasR m code minor fs = x := ⟨_, rfl⟩
  obtain ⟨KF, hKF⟩ : ∃ x, keepF fs (hopP (listF fs connN)) = x := ⟨_, rfl⟩
  rw [hSN, hBD]
  obtain ⟨FG, hFG⟩ : ∃ x, KF ++ (if t0 = true then [(lenN, itoaS (body.length : Int))] else []) = x := ⟨_, rfl⟩
  have HSN : Hid (withC FG t = SN) := by rw [Hid, ← hSN, ← hFG, ← ht0, ← hKF]; rfl
  have HFG := hidS hFG
  have HBD : Hid ((if t0 = true then body else []) = BD) := by rw [Hid, ← hBD, ← ht0]; rfl
  have hKL : KF.length ≤ 1024 := by rw [← hKF]; exact Nat.le_trans (List.length_filter_le _ _) lf
  have HKF := hidS hKF
  have HT0 : Hid ((!decide ((respF m code minor fs).1 = 0) || !(respF m code minor fs).2.2) = t0) := ht0
  have hGL : FG.length ≤ 1100 := by
    rw [← hFG, List.length_append]
    split <;> simp <;> omega
  clear hSN hBD ht0 hKF hFG
  have W0a : Below w.heap.size w (w.alloc (.cells #[.int .i64 code, .string reason, .int .i64 minor, .slice fa fs.length fc, .slice ba body.length bc] 40)) := (Below.refl _ _).alloc (Nat.le_refl _) _
  have W0 := W0a.alloc W0a.size (.cells #[.int .i64 0, .string ⟨#[]⟩, .int .i64 0, .slice none 0 0, .slice none 0 0] 40)
  clear W0a
  have k1 : ((w.alloc (.cells #[.int .i64 code, .string reason, .int .i64 minor, .slice fa fs.length fc, .slice ba body.length bc] 40)).alloc (.cells #[.int .i64 0, .string ⟨#[]⟩, .int .i64 0, .slice none 0 0, .slice none 0 0] 40)).heap[w.heap.size]? = some (.cells #[.int .i64 code, .string reason, .int .i64 minor, .slice fa fs.length fc, .slice ba body.length bc] 40) := (Below.heap_alloc _ _ _ (by simp)).trans (tblk_new _ _)
  have k3 : ((w.alloc (.cells #[.int .i64 code, .string reason, .int .i64 minor, .slice fa fs.length fc, .slice ba body.length bc] 40)).alloc (.cells #[.int .i64 0, .string ⟨#[]⟩, .int .i64 0, .slice none 0 0, .slice none 0 0] 40)).heap[w.heap.size + 1]? = some (.cells #[.int .i64 0, .string ⟨#[]⟩, .int .i64 0, .slice none 0 0, .slice none 0 0] 40) := by
    have k := tblk_new (w.alloc (.cells #[.int .i64 code, .string reason, .int .i64 minor, .slice fa fs.length fc, .slice ba body.length bc] 40)) (.cells #[.int .i64 0, .string ⟨#[]⟩, .int .i64 0, .slice none 0 0, .slice none 0 0] 40)
    rw [show (w.alloc (.cells #[.int .i64 code, .string reason, .int .i64 minor, .slice fa fs.length fc, .slice ba body.length bc] 40)).heap.size = w.heap.size + 1 by simp] at k
    exact k
  have hs1 : ((w.alloc (.cells #[.int .i64 code, .string reason, .int .i64 minor, .slice fa fs.length fc, .slice ba body.length bc] 40)).alloc (.cells #[.int .i64 0, .string ⟨#[]⟩, .int .i64 0, .slice none 0 0, .slice none 0 0] 40)).heap.size = w.heap.size + 2 := by simp
  have HF := hidS hf
  have HBO : Hid (∀ W, Below w.heap.size w W → Calls Tryz.prog 45 #[.slice ba body.length bc] W fun e w' => ∃ v', e = .returned v' ∧ Own W.heap.size w' v' body ∧ Below W.heap.size W w') := fun W B => bclone_any body kb _ _ _ W (hb.keep hkb B) (fun q => Nat.lt_of_lt_of_le (hkb q) B.size) (by omega)
  have HM := hidS hM
  have HP := hidS hP
  have BF := hidS bf
  have HFR : Hid (∀ W, Below w.heap.size w W → Calls Tryz.prog 49 #[.string m, .agg #[.int .i64 code, .string reason, .int .i64 minor, .slice fa fs.length fc, .slice ba body.length bc]] W fun e w' => e = .returned (.tuple #[.int .i64 (respF m code minor fs).1, .int .i64 (respF m code minor fs).2.1, .bool (respF m code minor fs).2.2]) ∧ Below W.heap.size W w') := fun W B => response_any m reason code minor fs fa ba fc body.length bc W ((hf.keep B).mono B.size) bf lf (hM.below B)
  clear hf hb hM hP bf hkb
  generalize (respF m code minor fs).1 = k9 at *
  generalize (respF m code minor fs).2.1 = k10 at *
  generalize (respF m code minor fs).2.2 = r11 at *
  go_enter Tryz.func17, Tryz.ntmps17
  go_upto_region 1 with fail
  generalize ((w.alloc (.cells #[.int .i64 code, .string reason, .int .i64 minor, .slice fa fs.length fc, .slice ba body.length bc] 40)).alloc (.cells #[.int .i64 0, .string ⟨#[]⟩, .int .i64 0, .slice none 0 0, .slice none 0 0] 40)) = w1 at *
  have HSC : Hid (∀ W, Below w1.heap.size w1 W → W.cell? ⟨w.heap.size, 3, none⟩ = some (.slice fa fs.length fc)) := fun W B => tblk_cell (tblk_below k1 B) rfl
  have H1 : Hid (∀ W, Below w1.heap.size w1 W → Calls Tryz.prog 36 #[.slice fa fs.length fc] W fun e w' => ∃ p, e = .returned (.func (.func 75) #[] #[.pointer (some ⟨p, 0, none⟩)]) ∧ W.heap.size ≤ p ∧ p < w'.heap.size ∧ HopAt w' p (listF fs connN) ∧ Below W.heap.size W w') := fun W B => by
    have BW := W0.trans (B.mono W0.size)
    exact schop_any fs fa fc W ((HF.out.keep BW).mono BW.size) BF.out lf (HM.out.below BW)
  have HD := (Below.refl w1.heap.size w1).drew
  have x1 := HSC.out _ HD
  have HX : Hid (∀ (w8 : World) (p1 : Nat), Below w1.heap.size w1 w8 → HopAt w8 p1 (listF fs connN) → Calls Tryz.prog 39 #[.slice fa fs.length fc, .slice (some ⟨w8.heap.size, 0, none⟩) 1 1] (w8.alloc (.cells #[.func (.func 75) #[] #[.pointer (some ⟨p1, 0, none⟩)]] 67))
      fun e w' => ∃ ao co, e = .returned (.slice ao KF.length co) ∧ OwnF (w8.alloc (.cells #[.func (.func 75) #[] #[.pointer (some ⟨p1, 0, none⟩)]] 67)).heap.size w' (.slice ao KF.length co) KF ∧ Below (w8.alloc (.cells #[.func (.func 75) #[] #[.pointer (some ⟨p1, 0, none⟩)]] 67)).heap.size (w8.alloc (.cells #[.func (.func 75) #[] #[.pointer (some ⟨p1, 0, none⟩)]] 67)) w') := fun w8 p1 B a1 => by
    have U8 : Below w8.heap.size w8 (w8.alloc (.cells #[.func (.func 75) #[] #[.pointer (some ⟨p1, 0, none⟩)]] 67)) := (Below.refl _ _).alloc (Nat.le_refl _) _
    have BW := (W0.trans (B.mono W0.size)).trans (U8.mono (W0.trans (B.mono W0.size)).size)
    have hb := tblk_new w8 (.cells #[.func (.func 75) #[] #[.pointer (some ⟨p1, 0, none⟩)]] 67)
    have k := scwithout_any fs fa fc [(hopV p1, hopP (listF fs connN))] (some ⟨w8.heap.size, 0, none⟩) 1 (w8.alloc (.cells #[.func (.func 75) #[] #[.pointer (some ⟨p1, 0, none⟩)]] 67)) ((HF.out.keep BW).mono BW.size) (fun f hf => ⟨Nat.le_trans (BF.out f hf).1 (by decide), Nat.le_trans (BF.out f hf).2 (by decide)⟩) (by omega)
      ⟨_, 1, rfl, (fun e => by cases e), Nat.le_refl _, by decide, fun _ => ⟨w8.heap.size, 0, rfl, by simp, fun j hj => by
        have hj' : j < 1 := hj
        rcases j with _ | j
        · exact tblk_cell hb rfl
        · omega⟩⟩
      (fun t q => by
        rcases List.mem_cons.1 q with rfl | q
        · exact ⟨p1, _, .inr ⟨rfl, rfl, a1.below U8⟩⟩
        cases q)
    have e : leftF fs [(hopV p1, hopP (listF fs connN))] = KF := by
      rw [← HKF.out]
      unfold leftF keepF anyP
      simp
    rw [e] at k
    exact k
  go_region_held3 (fun W => W.cell? ⟨w.heap.size, 3, none⟩ = some (.slice fa fs.length fc)) (go_keep) (first | (go_at_call 36; refine (H1.out _ HD).mono ?_; rintro e w8 ⟨p1, rfl, g1, g2, A1, B5⟩; have B8' := HD.trans (B5.mono HD.size); have hS := HSC.out _ B8'; have hS9 := HSC.out (w8.alloc (.cells #[.func (.func 75) #[] #[.pointer (some ⟨p1, 0, none⟩)]] 67)) (B8'.alloc B8'.size _); have HW := hidS (HX.out w8 p1 B8' A1)) | (go_at_call 39; refine HW.out.mono ?_; rintro e w9 ⟨ao, co, rfl, O9, B9⟩; have B9' := (B8'.alloc B8'.size _).trans (B9.mono (B8'.alloc B8'.size _).size); have hS9 := HSC.out w9 B9'))
  have W9 := W0.trans (B9'.mono W0.size)
  have hz9 : w.heap.size + 2 ≤ w9.heap.size := by have := B9'.size; omega
  have o9 := hidS (O9.mono (C := w.heap.size + 2) (by have := (B8'.alloc B8'.size (.cells #[.func (.func 75) #[] #[.pointer (some ⟨p1, 0, none⟩)]] 67)).size; omega))
  have m1 := tblk_below k1 B9'
  have m3 := tblk_below k3 B9'
  clear H1 HX HW HSC A1 B5 B8' hS hS9 O9 B9 B9' W0 k1 k3 hs1 HD x1 g1 g2
  have y0 : w9.cell? ⟨w.heap.size, 0, none⟩ = some (.int .i64 code) := tblk_cell m1 rfl
  have y1 : w9.cell? ⟨w.heap.size, 1, none⟩ = some (.string reason) := tblk_cell m1 rfl
  have y2 : w9.cell? ⟨w.heap.size, 2, none⟩ = some (.int .i64 minor) := tblk_cell m1 rfl
  have y3 : w9.cell? ⟨w.heap.size, 3, none⟩ = some (.slice fa fs.length fc) := tblk_cell m1 rfl
  have y4 : w9.cell? ⟨w.heap.size, 4, none⟩ = some (.slice ba body.length bc) := tblk_cell m1 rfl
  have HFR9 := hidS (HFR.out w9 W9)
  clear HFR
  go_wp2_with fail
  refine HFR9.out.mono ?_
  rintro e w10 ⟨rfl, B10⟩
  have W10 := W9.trans (B10.mono W9.size)
  have hz10 : w.heap.size + 2 ≤ w10.heap.size := by have := B10.size; omega
  have o10 := hidS (o9.out.keep B10)
  have m1 := tblk_below m1 B10
  have m3 := tblk_below m3 B10
  clear y0 y1 y2 y3 y4 HFR9 B10 o9 W9 hz9
  go_upto_region 4 with fail
  go_cut [31] from 26 (fun v wx => v = .bool t0 ∧ wx = w10)
  case first =>
    by_cases hk : k9 = 0
    · have e : Hid ((!r11) = t0) := by rw [Hid, ← HT0.out]; simp [hk]
      subst hk
      go_wp2
      go_meet
      exact ⟨by rw [e.out], rfl⟩
    · have e : Hid (true = t0) := by rw [Hid, ← HT0.out]; simp [hk]
      have hk2 : (k9 != 0) = true := by simp [hk]
      have hk3 : (k9 == 0) = false := by simp [hk]
      go_wp2
      go_meet
      exact ⟨by rw [e.out], rfl⟩
  case rest =>
    obtain ⟨rfl, rfl⟩ := hcut
    have M1 := hidS m1
    have M3 := hidS m3
    have HW := hidS W10
    clear m1 m3 W10 HT0
    go_upto_if 31 with fail
    go_cut [7, 8] from 32 (fun v7 v8 wx => ∃ a14 c14 bo cb, v7 = .slice a14 FG.length c14 ∧ v8 = .slice bo BD.length cb ∧ Hid (OwnF (w.heap.size + 2) wx (.slice a14 FG.length c14) FG) ∧ Hid (∃ nb, w.heap.size + 2 ≤ nb ∧ nb ≤ wx.heap.size ∧ (∀ ad, a14 = some ad → ad.block < nb) ∧ Own nb wx (.slice bo BD.length cb) BD) ∧ Hid (Below w.heap.size w wx) ∧ Hid (wx.heap[w.heap.size]? = some (.cells #[.int .i64 code, .string reason, .int .i64 minor, .slice fa fs.length fc, .slice ba body.length bc] 40)) ∧ Hid (wx.heap[w.heap.size + 1]? = some (.cells #[.int .i64 0, .string ⟨#[]⟩, .int .i64 0, .slice none 0 0, .slice none 0 0] 40)))
    case first =>
      cases t0
      · have e : [] = BD := by rw [← HBD.out]; rfl
        have e2 : KF = FG := by rw [← HFG.out]; simp
        subst e e2
        go_wp2_with fail
        go_meet
        exact ⟨ao, co, none, 0, rfl, rfl, o10, ⟨_, hz10, Nat.le_refl _, fun ad e => by subst e; exact (o10.out.lt _ rfl).2, Own.nil _ _⟩, HW, M1, M3⟩
      · have e : body = BD := by rw [← HBD.out]; rfl
        have e2 : KF ++ [(lenN, itoaS (body.length : Int))] = FG := by rw [← HFG.out]; simp
        clear HBD HFG
        subst e
        have HSC : Hid (∀ W, Below wc.heap.size wc W → W.cell? ⟨w.heap.size, 4, none⟩ = some (.slice ba body.length bc)) := fun W B => tblk_cell (tblk_below M1.out B) rfl
        have HL : Hid (∀ W, Below wc.heap.size wc W → Calls Tryz.prog 43 #[.slice ba body.length bc] W fun e w' => e = .returned (.agg #[.string lenN, .string (itoaS (body.length : Int))]) ∧ Below W.heap.size W w') := fun W B => sclen_any ba body.length bc W (by omega) (HP.out.below (HW.out.trans (B.mono HW.out.size)))
        have HAP : Hid (∀ w13, Below wc.heap.size wc w13 → ∃ a14 c14 w14, (Builtin.append_ #[22, 22] 22 #[.slice ao KF.length co, .slice (some ⟨w13.heap.size, 0, none⟩) 1 1]).run Tryz.prog (w13.alloc (.cells #[.string lenN, .string (itoaS (body.length : Int))] 34)) = .ok (.slice a14 FG.length c14) w14 ∧ OwnF (w.heap.size + 2) w14 (.slice a14 FG.length c14) FG ∧ Below (w.heap.size + 2) wc w14 ∧ w14.cell? ⟨w.heap.size, 4, none⟩ = some (.slice ba body.length bc)) := fun w13 B => by
          have U : Below w13.heap.size w13 (w13.alloc (.cells #[.string lenN, .string (itoaS (body.length : Int))] 34)) := (Below.refl _ _).alloc (Nat.le_refl _) _
          have hq := B.size
          have hq2 := U.size
          obtain ⟨v14, w14, r14, O14, B14⟩ := ownF_append ((o10.out.keep B).keep U) (fds_new w13 lenN (itoaS (body.length : Int))) (by simp; omega) (by omega)
          rw [e2] at O14
          obtain ⟨a14, c14, rfl, _⟩ := O14.form
          exact ⟨a14, c14, w14, r14, O14, ((B.mono hz10).trans (U.mono (by omega))).trans B14, tblk_cell ((B14.block _ (by omega)).trans (tblk_below (tblk_below M1.out B) U)) rfl⟩
        have HD := (Below.refl wc.heap.size wc).drew
        have x4 := HSC.out _ HD
        unfold lenN at HL HAP
        go_upto_region 5 with fail
        go_region_held3 (fun W => W.cell? ⟨w.heap.size, 4, none⟩ = some (.slice ba body.length bc)) (go_keep) (first | (go_at_call 43; refine (HL.out _ HD).mono ?_; rintro e1 w13 ⟨rfl, B13⟩; have B13' := HD.trans (B13.mono HD.size); have hS := HSC.out _ B13'; obtain ⟨a14, c14, w14, r14, O14, B14, hS14⟩ := HAP.out _ B13'; have hS9 := HSC.out _ (B13'.alloc B13'.size (.cells #[.string ⟨#[67, 111, 110, 116, 101, 110, 116, 45, 76, 101, 110, 103, 116, 104]⟩, .string (itoaS (body.length : Int))] 34))) | (refine step_app rfl _ _ rfl rfl _ _ rfl rfl r14 ?_) | (go_at_call 45; refine (HBO.out _ (HW.out.trans (B14.mono (Nat.le_add_right _ _)))).mono ?_; rintro e1 w15 ⟨v15, rfl, O15, B15⟩; obtain ⟨bo, cb, rfl, _⟩ := O15.form; have hS15 := (B15.cell (p := ⟨w.heap.size, 4, none⟩) (show w.heap.size < w14.heap.size by have := B14.size; omega)).trans hS14))
        have hq14 := B14.size
        have q1 := hidS ((B15.block w.heap.size (by omega)).trans ((B14.block _ (by omega)).trans M1.out))
        have q3 := hidS ((B15.block (w.heap.size + 1) (by omega)).trans ((B14.block _ (by omega)).trans M3.out))
        have HO := hidS (O14.keep B15)
        have HOB : Hid (∃ nb, w.heap.size + 2 ≤ nb ∧ nb ≤ w15.heap.size ∧ (∀ ad, a14 = some ad → ad.block < nb) ∧ Own nb w15 (.slice bo body.length cb) body) := ⟨w14.heap.size, by omega, B15.size, fun ad e => by subst e; exact (O14.lt _ rfl).2, O15⟩
        have HWW := hidS ((HW.out.trans (B14.mono (Nat.le_add_right _ _))).trans (B15.mono (by omega)))
        clear O14 O15 B14 B15 hS15 hS14 hS9 hS r14 B13 B13' HSC HL HAP HD x4
        go_wp2
        go_meet
        exact ⟨a14, c14, bo, cb, rfl, rfl, HO, HOB, HWW, q1, q3⟩
    case rest =>
      obtain ⟨a14, c14, bo, cb, rfl, rfl, HO, HOB, HWW, HQ1, HQ3⟩ := hcut
      have hzc := heap_lt HQ3.out
      have HSC : Hid (∀ W, Below (w.heap.size + 2) wc W → W.cell? ⟨w.heap.size, 0, none⟩ = some (.int .i64 code) ∧ W.cell? ⟨w.heap.size, 1, none⟩ = some (.string reason)) := fun W B => ⟨tblk_cell ((B.block _ (by omega)).trans HQ1.out) rfl, tblk_cell ((B.block _ (by omega)).trans HQ1.out) rfl⟩
      have hz2 : w.heap.size + 2 ≤ wc.heap.size := by omega
      have HN : Hid (∀ W, Below wc.heap.size wc W → Calls Tryz.prog 44 #[.string reason] W fun e w' => e = .returned (.string reason) ∧ Below wc.heap.size wc w') := fun W B => (clone_any reason W (by omega)).mono fun e w' ⟨e1, e2⟩ => ⟨e1, B.trans (e2.mono B.size)⟩
      have HCC : Hid (∀ W, Below wc.heap.size wc W → Calls Tryz.prog 50 #[.slice a14 FG.length c14, .bool t] W fun e wz => ∃ a16 c16, e = .returned (.slice a16 SN.length c16) ∧ Below (w.heap.size + 2) wc wz ∧ wz.heap[w.heap.size + 1]? = some (.cells #[.int .i64 0, .string ⟨#[]⟩, .int .i64 0, .slice none 0 0, .slice none 0 0] 40) ∧ OwnF (w.heap.size + 2) (s5 wz (w.heap.size + 1) (.int .i64 code) (.string reason) (.int .i64 1) (.slice a16 SN.length c16) (.slice bo BD.length cb)) (.slice a16 SN.length c16) SN ∧ Own (w.heap.size + 2) (s5 wz (w.heap.size + 1) (.int .i64 code) (.string reason) (.int .i64 1) (.slice a16 SN.length c16) (.slice bo BD.length cb)) (.slice bo BD.length cb) BD ∧ Below w.heap.size w (s5 wz (w.heap.size + 1) (.int .i64 code) (.string reason) (.int .i64 1) (.slice a16 SN.length c16) (.slice bo BD.length cb)) ∧ (s5 wz (w.heap.size + 1) (.int .i64 code) (.string reason) (.int .i64 1) (.slice a16 SN.length c16) (.slice bo BD.length cb)).heap[w.heap.size + 1]? = some (.cells #[.int .i64 code, .string reason, .int .i64 1, .slice a16 SN.length c16, .slice bo BD.length cb] 40)) := fun W B => by
        have k := scclose_any (w.heap.size + 2) FG a14 c14 t W (HO.out.keep B) (by omega) (by have := B.size; omega)
        rw [HSN.out] at k
        refine k.mono fun e wz ⟨a16, c16, e1, O, B2, K2⟩ => ?_
        have BB : Below (w.heap.size + 2) wc wz := (B.mono hz2).trans B2
        have h := (BB.block (w.heap.size + 1) (by omega)).trans HQ3.out
        obtain ⟨nb, n1, n2, n3, n4⟩ := HOB.out
        have OB : Own (w.heap.size + 2) wz (.slice bo BD.length cb) BD := ((n4.keep B).awayS (fun k hk hl => K2 k hl (fun ad e => by have := n3 ad e; omega))).mono n1
        exact ⟨a16, c16, e1, BB, h, O.awayS (fun k hk _ => s5_away (by omega)), OB.awayS (fun k hk _ => s5_away (by omega)), s5_below _ _ _ _ _ (HWW.out.trans (BB.mono (Nat.le_add_right _ _))) (Nat.le_add_right _ _), s5_cells h _ _ _ _ _⟩
      have HD := (Below.refl wc.heap.size wc).drew
      obtain ⟨x0, x1⟩ := HSC.out _ (HD.mono hz2)
      clear HQ1 HQ3 HO HOB HBO HWW HSN HF BF HKF HM HP
      go_upto_region 6 with fail
      go_region_with (first | (go_at_call 44; refine (HN.out _ HD).mono ?_; rintro e w20 ⟨rfl, hBm⟩; obtain ⟨x0, x1⟩ := HSC.out _ (hBm.mono hz2)) | (go_at_call 50; refine (HCC.out _ hBm).mono ?_; rintro e w21 ⟨a16, c16, rfl, hBz, h3, f1, f2, f3, f4⟩; obtain ⟨x0, x1⟩ := HSC.out _ hBz; have y0 : w21.cell? ⟨w.heap.size + 1, 0, none⟩ = some (.int .i64 0) := tblk_cell h3 rfl; have y1 : w21.cell? ⟨w.heap.size + 1, 1, none⟩ = some (.string ⟨#[]⟩) := tblk_cell h3 rfl; have y2 : w21.cell? ⟨w.heap.size + 1, 2, none⟩ = some (.int .i64 0) := tblk_cell h3 rfl; have y3 : w21.cell? ⟨w.heap.size + 1, 3, none⟩ = some (.slice none 0 0) := tblk_cell h3 rfl; have y4 : w21.cell? ⟨w.heap.size + 1, 4, none⟩ = some (.slice none 0 0) := tblk_cell h3 rfl; have z0 := sblk_z (i := 0) h3; have z1 := sblk_z (i := 1) h3; have z2 := sblk_z (i := 2) h3; have z3 := sblk_z (i := 3) h3; have z4 := sblk_z (i := 4) h3))
      all_goals
        have r0 : (((((w21.setCell ⟨w.heap.size + 1, 0, none⟩ (.int .i64 code)).setCell ⟨w.heap.size + 1, 1, none⟩ (.string reason)).setCell ⟨w.heap.size + 1, 2, none⟩ (.int .i64 1)).setCell ⟨w.heap.size + 1, 3, none⟩ (.slice a16 SN.length c16)).setCell ⟨w.heap.size + 1, 4, none⟩ (.slice bo BD.length cb)).cell? ⟨w.heap.size + 1, 0, none⟩ = some (.int .i64 code) := tblk_cell f4 rfl
        have r1 : (((((w21.setCell ⟨w.heap.size + 1, 0, none⟩ (.int .i64 code)).setCell ⟨w.heap.size + 1, 1, none⟩ (.string reason)).setCell ⟨w.heap.size + 1, 2, none⟩ (.int .i64 1)).setCell ⟨w.heap.size + 1, 3, none⟩ (.slice a16 SN.length c16)).setCell ⟨w.heap.size + 1, 4, none⟩ (.slice bo BD.length cb)).cell? ⟨w.heap.size + 1, 1, none⟩ = some (.string reason) := tblk_cell f4 rfl
        have r2 : (((((w21.setCell ⟨w.heap.size + 1, 0, none⟩ (.int .i64 code)).setCell ⟨w.heap.size + 1, 1, none⟩ (.string reason)).setCell ⟨w.heap.size + 1, 2, none⟩ (.int .i64 1)).setCell ⟨w.heap.size + 1, 3, none⟩ (.slice a16 SN.length c16)).setCell ⟨w.heap.size + 1, 4, none⟩ (.slice bo BD.length cb)).cell? ⟨w.heap.size + 1, 2, none⟩ = some (.int .i64 1) := tblk_cell f4 rfl
        have r3 : (((((w21.setCell ⟨w.heap.size + 1, 0, none⟩ (.int .i64 code)).setCell ⟨w.heap.size + 1, 1, none⟩ (.string reason)).setCell ⟨w.heap.size + 1, 2, none⟩ (.int .i64 1)).setCell ⟨w.heap.size + 1, 3, none⟩ (.slice a16 SN.length c16)).setCell ⟨w.heap.size + 1, 4, none⟩ (.slice bo BD.length cb)).cell? ⟨w.heap.size + 1, 3, none⟩ = some (.slice a16 SN.length c16) := tblk_cell f4 rfl
        have r4 : (((((w21.setCell ⟨w.heap.size + 1, 0, none⟩ (.int .i64 code)).setCell ⟨w.heap.size + 1, 1, none⟩ (.string reason)).setCell ⟨w.heap.size + 1, 2, none⟩ (.int .i64 1)).setCell ⟨w.heap.size + 1, 3, none⟩ (.slice a16 SN.length c16)).setCell ⟨w.heap.size + 1, 4, none⟩ (.slice bo BD.length cb)).cell? ⟨w.heap.size + 1, 4, none⟩ = some (.slice bo BD.length cb) := tblk_cell f4 rfl
        have HF1 := hidS f1
        have HF2 := hidS f2
        have HF3 := hidS f3
        clear f1 f2 f3 f4 h3 y0 y1 y2 y3 y4 z0 z1 z2 z3 z4 x0 x1 HSC HN HCC HD hBm hBz
        go_wp2
        refine bodyPost_ret (v := .agg #[.int .i64 code, .string reason, .int .i64 1, .slice a16 SN.length c16, .slice bo BD.length cb]) (by simp [results, Tryz.results17, go_sem, r0, r1, r2, r3, r4]) rfl ?_
        exact ⟨a16, c16, bo, cb, rfl, HF1.out.mono (Nat.le_add_right _ _), HF2.out.mono (Nat.le_add_right _ _), HF3.out⟩
end Go.Proofs.YtajfjjmabncldaaGreatDoor

/- Scrub: the document's example. -/
namespace Go.Proofs.YtajfjjmabncldaaGreatDoor
open Go.ChangeShapes Go.WideShapes Go.ChangeAt Go.RowKit
set_option linter.unusedVariables false

def fsA : Fs := [(⟨#[72, 111, 115, 116]⟩, ⟨#[104]⟩), (⟨#[88]⟩, ⟨#[49]⟩), (⟨#[67, 111, 110, 110, 101, 99, 116, 105, 111, 110]⟩, ⟨#[120, 44, 32, 99, 108, 111, 115, 101]⟩), (⟨#[89]⟩, ⟨#[50]⟩)]
def setA : Fs := [(⟨#[90]⟩, ⟨#[51]⟩)]
def sentA : Fs := [(⟨#[72, 111, 115, 116]⟩, ⟨#[104]⟩), (⟨#[89]⟩, ⟨#[50]⟩), (⟨#[90]⟩, ⟨#[51]⟩)]
def backA : Fs := [(⟨#[89]⟩, ⟨#[50]⟩), (lenN, ⟨#[50]⟩)]
theorem al_sent : sentF fsA [] setA ⟨#[104]⟩ ⟨#[71, 69, 84]⟩ 0 = sentA := by kernel_rfl
theorem al_back : backF ⟨#[71, 69, 84]⟩ 200 0 fsA 2 false = backA := by kernel_rfl
theorem al_body : backB ⟨#[71, 69, 84]⟩ 200 0 fsA [97, 98] = [97, 98] := by kernel_rfl
theorem al_own : (ownFs true).length = 2 := by kernel_rfl
theorem al_x : hopP (listF fsA connN) ⟨#[120]⟩ = true := by kernel_rfl
theorem al_y : hopP (listF fsA connN) ⟨#[121]⟩ = false := by kernel_rfl
theorem al_bd : FBd 1048576 fsA := by
  intro f hf
  simp only [fsA, List.mem_cons, List.not_mem_nil, or_false] at hf
  rcases hf with rfl | rfl | rfl | rfl <;> exact ⟨by decide, by decide⟩
theorem al_bs : FBd 1048576 setA := by
  intro f hf
  simp only [setA, List.mem_cons, List.not_mem_nil, or_false] at hf
  subst hf
  exact ⟨by decide, by decide⟩
theorem src_rowS {W : World} {g n : Nat} {l : List UInt8} {row : Array Value} {fz : Nat × Nat} (h : W.heap[g]? = some (.cells row 5 fz)) (hl : l.length = n) (hm : n ≤ maxLen) (hr : (rowB l).toArray = row := by rfl) : Src W g (.slice (some ⟨g, 0, none⟩) n n) l := by
  subst hr hl
  refine ⟨_, _, rfl, Nat.le_refl _, hm, fun _ => ⟨0, rfl, fun j hj => ?_⟩⟩
  have e : (rowB l).toArray[0 + j]? = some (bv l[j]) := by
    rw [Nat.zero_add, List.getElem?_toArray]
    unfold rowB
    rw [List.getElem?_map, List.getElem?_eq_getElem hj]; rfl
  unfold World.cell?
  rw [h]
  exact e
set_option maxRecDepth 100000 in
set_option maxHeartbeats 4000000 in
theorem alive12_any (w : World) (hM : MaxL w) (hP : PowT w) : Calls Tryz.prog 9 #[] w fun e w' => e = .returned (.bool true) ∧ Below w.heap.size w w' := by
  have U1 : Below w.heap.size w (w.alloc (.cells #[.string ⟨#[72, 111, 115, 116]⟩, .string ⟨#[104]⟩, .string ⟨#[88]⟩, .string ⟨#[49]⟩, .string ⟨#[67, 111, 110, 110, 101, 99, 116, 105, 111, 110]⟩, .string ⟨#[120, 44, 32, 99, 108, 111, 115, 101]⟩, .string ⟨#[89]⟩, .string ⟨#[50]⟩] 34)) := (Below.refl _ _).alloc (Nat.le_refl _) _
  have U2 := U1.alloc U1.size (.cells #[.string ⟨#[71, 69, 84]⟩, .string ⟨#[47]⟩, .int .i64 1, .slice (some ⟨w.heap.size, 0, none⟩) 4 4, .slice none 0 0] 25)
  have U3 := U2.alloc U2.size (.cells #[.string ⟨#[90]⟩, .string ⟨#[51]⟩] 34)
  have W0 := U3.alloc U3.size (.cells #[.slice none 0 0, .slice none 0 0, .slice (some ⟨w.heap.size + 1 + 1, 0, none⟩) 1 1, .slice none 0 0, .int .i64 0, .int .i64 0, .int .i64 0, .int .i64 0] 30)
  clear U1 U2 U3
  have f0 : ((((w.alloc (.cells #[.string ⟨#[72, 111, 115, 116]⟩, .string ⟨#[104]⟩, .string ⟨#[88]⟩, .string ⟨#[49]⟩, .string ⟨#[67, 111, 110, 110, 101, 99, 116, 105, 111, 110]⟩, .string ⟨#[120, 44, 32, 99, 108, 111, 115, 101]⟩, .string ⟨#[89]⟩, .string ⟨#[50]⟩] 34)).alloc (.cells #[.string ⟨#[71, 69, 84]⟩, .string ⟨#[47]⟩, .int .i64 1, .slice (some ⟨w.heap.size, 0, none⟩) 4 4, .slice none 0 0] 25)).alloc (.cells #[.string ⟨#[90]⟩, .string ⟨#[51]⟩] 34)).alloc (.cells #[.slice none 0 0, .slice none 0 0, .slice (some ⟨w.heap.size + 1 + 1, 0, none⟩) 1 1, .slice none 0 0, .int .i64 0, .int .i64 0, .int .i64 0, .int .i64 0] 30)).heap[w.heap.size]? = some (.cells #[.string ⟨#[72, 111, 115, 116]⟩, .string ⟨#[104]⟩, .string ⟨#[88]⟩, .string ⟨#[49]⟩, .string ⟨#[67, 111, 110, 110, 101, 99, 116, 105, 111, 110]⟩, .string ⟨#[120, 44, 32, 99, 108, 111, 115, 101]⟩, .string ⟨#[89]⟩, .string ⟨#[50]⟩] 34) := (Below.heap_alloc _ _ _ (by simp <;> omega)).trans ((Below.heap_alloc _ _ _ (by simp <;> omega)).trans ((Below.heap_alloc _ _ _ (by simp)).trans (tblk_new _ _)))
  have f1 : ((((w.alloc (.cells #[.string ⟨#[72, 111, 115, 116]⟩, .string ⟨#[104]⟩, .string ⟨#[88]⟩, .string ⟨#[49]⟩, .string ⟨#[67, 111, 110, 110, 101, 99, 116, 105, 111, 110]⟩, .string ⟨#[120, 44, 32, 99, 108, 111, 115, 101]⟩, .string ⟨#[89]⟩, .string ⟨#[50]⟩] 34)).alloc (.cells #[.string ⟨#[71, 69, 84]⟩, .string ⟨#[47]⟩, .int .i64 1, .slice (some ⟨w.heap.size, 0, none⟩) 4 4, .slice none 0 0] 25)).alloc (.cells #[.string ⟨#[90]⟩, .string ⟨#[51]⟩] 34)).alloc (.cells #[.slice none 0 0, .slice none 0 0, .slice (some ⟨w.heap.size + 1 + 1, 0, none⟩) 1 1, .slice none 0 0, .int .i64 0, .int .i64 0, .int .i64 0, .int .i64 0] 30)).heap[w.heap.size + 1]? = some (.cells #[.string ⟨#[71, 69, 84]⟩, .string ⟨#[47]⟩, .int .i64 1, .slice (some ⟨w.heap.size, 0, none⟩) 4 4, .slice none 0 0] 25) := by
    have k := tblk_new (w.alloc (.cells #[.string ⟨#[72, 111, 115, 116]⟩, .string ⟨#[104]⟩, .string ⟨#[88]⟩, .string ⟨#[49]⟩, .string ⟨#[67, 111, 110, 110, 101, 99, 116, 105, 111, 110]⟩, .string ⟨#[120, 44, 32, 99, 108, 111, 115, 101]⟩, .string ⟨#[89]⟩, .string ⟨#[50]⟩] 34)) (.cells #[.string ⟨#[71, 69, 84]⟩, .string ⟨#[47]⟩, .int .i64 1, .slice (some ⟨w.heap.size, 0, none⟩) 4 4, .slice none 0 0] 25)
    rw [show (w.alloc (.cells #[.string ⟨#[72, 111, 115, 116]⟩, .string ⟨#[104]⟩, .string ⟨#[88]⟩, .string ⟨#[49]⟩, .string ⟨#[67, 111, 110, 110, 101, 99, 116, 105, 111, 110]⟩, .string ⟨#[120, 44, 32, 99, 108, 111, 115, 101]⟩, .string ⟨#[89]⟩, .string ⟨#[50]⟩] 34)).heap.size = w.heap.size + 1 by simp] at k
    exact (Below.heap_alloc _ _ _ (by simp <;> omega)).trans ((Below.heap_alloc _ _ _ (by simp)).trans k)
  have f2 : ((((w.alloc (.cells #[.string ⟨#[72, 111, 115, 116]⟩, .string ⟨#[104]⟩, .string ⟨#[88]⟩, .string ⟨#[49]⟩, .string ⟨#[67, 111, 110, 110, 101, 99, 116, 105, 111, 110]⟩, .string ⟨#[120, 44, 32, 99, 108, 111, 115, 101]⟩, .string ⟨#[89]⟩, .string ⟨#[50]⟩] 34)).alloc (.cells #[.string ⟨#[71, 69, 84]⟩, .string ⟨#[47]⟩, .int .i64 1, .slice (some ⟨w.heap.size, 0, none⟩) 4 4, .slice none 0 0] 25)).alloc (.cells #[.string ⟨#[90]⟩, .string ⟨#[51]⟩] 34)).alloc (.cells #[.slice none 0 0, .slice none 0 0, .slice (some ⟨w.heap.size + 1 + 1, 0, none⟩) 1 1, .slice none 0 0, .int .i64 0, .int .i64 0, .int .i64 0, .int .i64 0] 30)).heap[w.heap.size + 1 + 1]? = some (.cells #[.string ⟨#[90]⟩, .string ⟨#[51]⟩] 34) := by
    have k := tblk_new ((w.alloc (.cells #[.string ⟨#[72, 111, 115, 116]⟩, .string ⟨#[104]⟩, .string ⟨#[88]⟩, .string ⟨#[49]⟩, .string ⟨#[67, 111, 110, 110, 101, 99, 116, 105, 111, 110]⟩, .string ⟨#[120, 44, 32, 99, 108, 111, 115, 101]⟩, .string ⟨#[89]⟩, .string ⟨#[50]⟩] 34)).alloc (.cells #[.string ⟨#[71, 69, 84]⟩, .string ⟨#[47]⟩, .int .i64 1, .slice (some ⟨w.heap.size, 0, none⟩) 4 4, .slice none 0 0] 25)) (.cells #[.string ⟨#[90]⟩, .string ⟨#[51]⟩] 34)
    rw [show ((w.alloc (.cells #[.string ⟨#[72, 111, 115, 116]⟩, .string ⟨#[104]⟩, .string ⟨#[88]⟩, .string ⟨#[49]⟩, .string ⟨#[67, 111, 110, 110, 101, 99, 116, 105, 111, 110]⟩, .string ⟨#[120, 44, 32, 99, 108, 111, 115, 101]⟩, .string ⟨#[89]⟩, .string ⟨#[50]⟩] 34)).alloc (.cells #[.string ⟨#[71, 69, 84]⟩, .string ⟨#[47]⟩, .int .i64 1, .slice (some ⟨w.heap.size, 0, none⟩) 4 4, .slice none 0 0] 25)).heap.size = w.heap.size + 1 + 1 by simp] at k
    exact (Below.heap_alloc _ _ _ (by simp)).trans k
  have f3 : ((((w.alloc (.cells #[.string ⟨#[72, 111, 115, 116]⟩, .string ⟨#[104]⟩, .string ⟨#[88]⟩, .string ⟨#[49]⟩, .string ⟨#[67, 111, 110, 110, 101, 99, 116, 105, 111, 110]⟩, .string ⟨#[120, 44, 32, 99, 108, 111, 115, 101]⟩, .string ⟨#[89]⟩, .string ⟨#[50]⟩] 34)).alloc (.cells #[.string ⟨#[71, 69, 84]⟩, .string ⟨#[47]⟩, .int .i64 1, .slice (some ⟨w.heap.size, 0, none⟩) 4 4, .slice none 0 0] 25)).alloc (.cells #[.string ⟨#[90]⟩, .string ⟨#[51]⟩] 34)).alloc (.cells #[.slice none 0 0, .slice none 0 0, .slice (some ⟨w.heap.size + 1 + 1, 0, none⟩) 1 1, .slice none 0 0, .int .i64 0, .int .i64 0, .int .i64 0, .int .i64 0] 30)).heap[w.heap.size + 1 + 1 + 1]? = some (.cells #[.slice none 0 0, .slice none 0 0, .slice (some ⟨w.heap.size + 1 + 1, 0, none⟩) 1 1, .slice none 0 0, .int .i64 0, .int .i64 0, .int .i64 0, .int .i64 0] 30) := by
    have k := tblk_new (((w.alloc (.cells #[.string ⟨#[72, 111, 115, 116]⟩, .string ⟨#[104]⟩, .string ⟨#[88]⟩, .string ⟨#[49]⟩, .string ⟨#[67, 111, 110, 110, 101, 99, 116, 105, 111, 110]⟩, .string ⟨#[120, 44, 32, 99, 108, 111, 115, 101]⟩, .string ⟨#[89]⟩, .string ⟨#[50]⟩] 34)).alloc (.cells #[.string ⟨#[71, 69, 84]⟩, .string ⟨#[47]⟩, .int .i64 1, .slice (some ⟨w.heap.size, 0, none⟩) 4 4, .slice none 0 0] 25)).alloc (.cells #[.string ⟨#[90]⟩, .string ⟨#[51]⟩] 34)) (.cells #[.slice none 0 0, .slice none 0 0, .slice (some ⟨w.heap.size + 1 + 1, 0, none⟩) 1 1, .slice none 0 0, .int .i64 0, .int .i64 0, .int .i64 0, .int .i64 0] 30)
    rw [show (((w.alloc (.cells #[.string ⟨#[72, 111, 115, 116]⟩, .string ⟨#[104]⟩, .string ⟨#[88]⟩, .string ⟨#[49]⟩, .string ⟨#[67, 111, 110, 110, 101, 99, 116, 105, 111, 110]⟩, .string ⟨#[120, 44, 32, 99, 108, 111, 115, 101]⟩, .string ⟨#[89]⟩, .string ⟨#[50]⟩] 34)).alloc (.cells #[.string ⟨#[71, 69, 84]⟩, .string ⟨#[47]⟩, .int .i64 1, .slice (some ⟨w.heap.size, 0, none⟩) 4 4, .slice none 0 0] 25)).alloc (.cells #[.string ⟨#[90]⟩, .string ⟨#[51]⟩] 34)).heap.size = w.heap.size + 1 + 1 + 1 by simp] at k
    exact k
  have HM := hidS hM
  have HP := hidS hP
  clear hM hP
  go_enter Tryz.func9, Tryz.ntmps9
  go_upto_region 3 with fail
  generalize ((((w.alloc (.cells #[.string ⟨#[72, 111, 115, 116]⟩, .string ⟨#[104]⟩, .string ⟨#[88]⟩, .string ⟨#[49]⟩, .string ⟨#[67, 111, 110, 110, 101, 99, 116, 105, 111, 110]⟩, .string ⟨#[120, 44, 32, 99, 108, 111, 115, 101]⟩, .string ⟨#[89]⟩, .string ⟨#[50]⟩] 34)).alloc (.cells #[.string ⟨#[71, 69, 84]⟩, .string ⟨#[47]⟩, .int .i64 1, .slice (some ⟨w.heap.size, 0, none⟩) 4 4, .slice none 0 0] 25)).alloc (.cells #[.string ⟨#[90]⟩, .string ⟨#[51]⟩] 34)).alloc (.cells #[.slice none 0 0, .slice none 0 0, .slice (some ⟨w.heap.size + 1 + 1, 0, none⟩) 1 1, .slice none 0 0, .int .i64 0, .int .i64 0, .int .i64 0, .int .i64 0] 30)) = w1 at *
  have x0 : w1.cell? ⟨w.heap.size + 1, 0, none⟩ = some (.string ⟨#[71, 69, 84]⟩) := tblk_cell f1 rfl
  have x1 : w1.cell? ⟨w.heap.size + 1, 1, none⟩ = some (.string ⟨#[47]⟩) := tblk_cell f1 rfl
  have x2 : w1.cell? ⟨w.heap.size + 1, 2, none⟩ = some (.int .i64 1) := tblk_cell f1 rfl
  have x3 : w1.cell? ⟨w.heap.size + 1, 3, none⟩ = some (.slice (some ⟨w.heap.size, 0, none⟩) 4 4) := tblk_cell f1 rfl
  have x4 : w1.cell? ⟨w.heap.size + 1, 4, none⟩ = some (.slice none 0 0) := tblk_cell f1 rfl
  have y0 : w1.cell? ⟨w.heap.size + 1 + 1 + 1, 0, none⟩ = some (.slice none 0 0) := tblk_cell f3 rfl
  have y1 : w1.cell? ⟨w.heap.size + 1 + 1 + 1, 1, none⟩ = some (.slice none 0 0) := tblk_cell f3 rfl
  have y2 : w1.cell? ⟨w.heap.size + 1 + 1 + 1, 2, none⟩ = some (.slice (some ⟨w.heap.size + 1 + 1, 0, none⟩) 1 1) := tblk_cell f3 rfl
  have y3 : w1.cell? ⟨w.heap.size + 1 + 1 + 1, 3, none⟩ = some (.slice none 0 0) := tblk_cell f3 rfl
  have y4 : w1.cell? ⟨w.heap.size + 1 + 1 + 1, 4, none⟩ = some (.int .i64 0) := tblk_cell f3 rfl
  have y5 : w1.cell? ⟨w.heap.size + 1 + 1 + 1, 5, none⟩ = some (.int .i64 0) := tblk_cell f3 rfl
  have y6 : w1.cell? ⟨w.heap.size + 1 + 1 + 1, 6, none⟩ = some (.int .i64 0) := tblk_cell f3 rfl
  have y7 : w1.cell? ⟨w.heap.size + 1 + 1 + 1, 7, none⟩ = some (.int .i64 0) := tblk_cell f3 rfl
  have HF : Hid (Fds w1.heap.size w1 (.slice (some ⟨w.heap.size, 0, none⟩) 4 4) fsA) := ⟨_, 4, rfl, (fun e => by cases e), Nat.le_refl _, by decide, fun _ => ⟨w.heap.size, 0, rfl, heap_lt f0, fun j hj => by
    have hj' : j < 4 := hj
    rcases j with _ | _ | _ | _ | j
    · exact ⟨tblk_cell f0 rfl, tblk_cell f0 rfl⟩
    · exact ⟨tblk_cell f0 rfl, tblk_cell f0 rfl⟩
    · exact ⟨tblk_cell f0 rfl, tblk_cell f0 rfl⟩
    · exact ⟨tblk_cell f0 rfl, tblk_cell f0 rfl⟩
    · omega⟩⟩
  have HSE : Hid (Fds w1.heap.size w1 (.slice (some ⟨w.heap.size + 1 + 1, 0, none⟩) 1 1) setA) := ⟨_, 1, rfl, (fun e => by cases e), Nat.le_refl _, by decide, fun _ => ⟨w.heap.size + 1 + 1, 0, rfl, heap_lt f2, fun j hj => by
    have hj' : j < 1 := hj
    rcases j with _ | j
    · exact ⟨tblk_cell f2 rfl, tblk_cell f2 rfl⟩
    · omega⟩⟩
  have HRQ := screq_any ⟨#[71, 69, 84]⟩ ⟨#[47]⟩ ⟨#[104]⟩ ⟨#[47, 110]⟩ 1 0 0 0 0 fsA setA [] [] (some ⟨w.heap.size, 0, none⟩) none (some ⟨w.heap.size + 1 + 1, 0, none⟩) none none none 4 0 1 0 0 0 0 0 0 w1 HF.out HSE.out ⟨none, 0, rfl, (fun _ => rfl), Nat.le_refl _, by decide, fun q => absurd q (Nat.lt_irrefl 0)⟩ ⟨none, 0, rfl, Nat.le_refl _, by decide, fun q => absurd q (Nat.lt_irrefl 0)⟩ (fun q => absurd q (Nat.lt_irrefl 0)) al_bd al_bs (fun x hx => by cases hx) (by decide) (by decide) (by decide) (by decide) (by decide) (by decide) (HM.out.below W0) (HP.out.below W0)
  rw [show sentF fsA [] setA ⟨#[104]⟩ ⟨#[71, 69, 84]⟩ ([] : List UInt8).length = sentA from al_sent] at HRQ
  have HRQ := hidS HRQ
  have HF0 := hidS f0
  have HF1 := hidS f1
  have HW := hidS W0
  have hz1 : w.heap.size + 4 ≤ w1.heap.size := by have := heap_lt f3; omega
  clear f0 f1 f2 f3 W0
  go_wp2_with fail
  refine HRQ.out.mono ?_
  rintro e w2 ⟨ao, co, bo, cb, rfl, O2, _, B2⟩
  clear HRQ x0 x1 x2 x3 x4 y0 y1 y2 y3 y4 y5 y6 y7
  go_upto_region 4 with fail
  have U3 : Below w2.heap.size w2 (w2.alloc (.cells #[.string ⟨#[71, 69, 84]⟩, .string ⟨#[47, 110]⟩, .int .i64 1, .slice ao sentA.length co, .slice bo 0 cb] 25)) := (Below.refl _ _).alloc (Nat.le_refl _) _
  have g3 := tblk_new w2 (.cells #[.string ⟨#[71, 69, 84]⟩, .string ⟨#[47, 110]⟩, .int .i64 1, .slice ao sentA.length co, .slice bo 0 cb] 25)
  have B13 := B2.trans (U3.mono B2.size)
  have O3 := hidS (O2.keep U3)
  have HF1 := hidS (tblk_below HF1.out B13)
  have HF := hidS ((HF.out.keep B13).mono B13.size)
  have HW3 := hidS (HW.out.trans (B13.mono HW.out.size))
  have hz3 := B13.size
  clear O2 B2 U3 B13 HF0 HSE HW
  generalize (w2.alloc (.cells #[.string ⟨#[71, 69, 84]⟩, .string ⟨#[47, 110]⟩, .int .i64 1, .slice ao sentA.length co, .slice bo 0 cb] 25)) = w3 at *
  have HOW := scown_any 404 true w3 (HP.out.below HW3.out)
  rw [al_own] at HOW
  obtain ⟨rs, hrs⟩ : ∃ x, reasonS 404 = x := ⟨_, rfl⟩
  rw [hrs] at HOW
  have HOW := hidS HOW
  clear hrs
  go_wp2_with fail
  refine HOW.out.mono ?_
  rintro e w4 ⟨ao2, co2, rfl, _, B4⟩
  have U5 : Below w4.heap.size w4 (w4.alloc (.cells #[.int .i64 404, .string rs, .int .i64 1, .slice ao2 2 co2, .slice none 0 0] 40)) := (Below.refl _ _).alloc (Nat.le_refl _) _
  have g5 := tblk_new w4 (.cells #[.int .i64 404, .string rs, .int .i64 1, .slice ao2 2 co2, .slice none 0 0] 40)
  have B35 := B4.trans (U5.mono B4.size)
  have O5 := hidS (O3.out.keep B35)
  have HF1 := hidS (tblk_below HF1.out B35)
  have g3 := tblk_below g3 B35
  have HF := hidS ((HF.out.keep B35).mono B35.size)
  have HW5 := hidS (HW3.out.trans (B35.mono HW3.out.size))
  clear HOW B4 U5 O3 HW3 B35
  go_upto_region 5 with fail
  generalize (w4.alloc (.cells #[.int .i64 404, .string rs, .int .i64 1, .slice ao2 2 co2, .slice none 0 0] 40)) = w5 at *
  have x3 : w5.cell? ⟨w.heap.size + 1, 3, none⟩ = some (.slice (some ⟨w.heap.size, 0, none⟩) 4 4) := tblk_cell HF1.out rfl
  have hcv := conv_same w5 #[.int .u8 97, .int .u8 98] 2 2
  have U6 : Below w5.heap.size w5 (w5.alloc (.cells #[.int .u8 97, .int .u8 98] 5 (2, 3))) := (Below.refl _ _).alloc (Nat.le_refl _) _
  have S6 := src_rowS (W := (w5.alloc (.cells #[.int .u8 97, .int .u8 98] 5 (2, 3)))) (g := w5.heap.size) (n := 2) (l := [97, 98]) (tblk_new _ _) rfl (by decide)
  have HRS := scresp_any ⟨#[71, 69, 84]⟩ ⟨#[79, 75]⟩ 200 0 fsA [97, 98] (some ⟨w.heap.size, 0, none⟩) (some ⟨w5.heap.size, 0, none⟩) 4 2 w5.heap.size false (w5.alloc (.cells #[.int .u8 97, .int .u8 98] 5 (2, 3))) ((HF.out.keep U6).mono U6.size) S6 (fun _ => by simp) al_bd (by decide) (by decide) (by decide) (HM.out.below (HW5.out.trans (U6.mono HW5.out.size))) (HP.out.below (HW5.out.trans (U6.mono HW5.out.size)))
  rw [show backF ⟨#[71, 69, 84]⟩ 200 0 fsA ([97, 98] : List UInt8).length false = backA from al_back, al_body] at HRS
  have HRS := hidS HRS
  have O6 := hidS (O5.out.keep U6)
  have HF1 := hidS (tblk_below HF1.out U6)
  have g3 := tblk_below g3 U6
  have g5 := tblk_below g5 U6
  have HF := hidS ((HF.out.keep U6).mono U6.size)
  have HW6 := hidS (HW5.out.trans (U6.mono HW5.out.size))
  clear O5 HW5 S6 U6
  go_wp2_with fail
  refine HRS.out.mono ?_
  rintro e w7 ⟨ao3, co3, bo3, cb3, rfl, O7, OB7, B7⟩
  have U8 : Below w7.heap.size w7 (w7.alloc (.cells #[.int .i64 200, .string ⟨#[79, 75]⟩, .int .i64 1, .slice ao3 backA.length co3, .slice bo3 2 cb3] 40)) := (Below.refl _ _).alloc (Nat.le_refl _) _
  have g8 := tblk_new w7 (.cells #[.int .i64 200, .string ⟨#[79, 75]⟩, .int .i64 1, .slice ao3 backA.length co3, .slice bo3 2 cb3] 40)
  have B68 := B7.trans (U8.mono B7.size)
  have O8 := hidS (O6.out.keep B68)
  have HF1 := hidS (tblk_below HF1.out B68)
  have g3 := tblk_below g3 B68
  have g5 := tblk_below g5 B68
  have HF := hidS ((HF.out.keep B68).mono B68.size)
  have HW8 := hidS (HW6.out.trans (B68.mono HW6.out.size))
  have P8 := hidS (O7.keep U8)
  have Q8 := hidS (OB7.keep U8)
  clear HRS B7 U8 O6 HW6 B68 O7 OB7 hcv x3
  go_upto_region 6 with fail
  generalize (w7.alloc (.cells #[.int .i64 200, .string ⟨#[79, 75]⟩, .int .i64 1, .slice ao3 backA.length co3, .slice bo3 2 cb3] 40)) = w8 at *
  have a1 : w8.cell? ⟨w2.heap.size, 1, none⟩ = some (.string ⟨#[47, 110]⟩) := tblk_cell g3 rfl
  have a2 : w8.cell? ⟨w2.heap.size, 2, none⟩ = some (.int .i64 1) := tblk_cell g3 rfl
  have a3 : w8.cell? ⟨w2.heap.size, 3, none⟩ = some (.slice ao sentA.length co) := tblk_cell g3 rfl
  have U9 : Below w8.heap.size w8 (w8.alloc (.cells #[.string ⟨#[72, 111, 115, 116]⟩, .string ⟨#[104]⟩, .string ⟨#[89]⟩, .string ⟨#[50]⟩, .string ⟨#[90]⟩, .string ⟨#[51]⟩] 34)) := (Below.refl _ _).alloc (Nat.le_refl _) _
  have h9 := tblk_new w8 (.cells #[.string ⟨#[72, 111, 115, 116]⟩, .string ⟨#[104]⟩, .string ⟨#[89]⟩, .string ⟨#[50]⟩, .string ⟨#[90]⟩, .string ⟨#[51]⟩] 34)
  have HSM := hidS (rsame_eq sentA ao (some ⟨w8.heap.size, 0, none⟩) co 3 (w8.alloc (.cells #[.string ⟨#[72, 111, 115, 116]⟩, .string ⟨#[104]⟩, .string ⟨#[89]⟩, .string ⟨#[50]⟩, .string ⟨#[90]⟩, .string ⟨#[51]⟩] 34)) ((O8.out.keep U9).fds) (Y := (w8.alloc (.cells #[.string ⟨#[72, 111, 115, 116]⟩, .string ⟨#[104]⟩, .string ⟨#[89]⟩, .string ⟨#[50]⟩, .string ⟨#[90]⟩, .string ⟨#[51]⟩] 34)).heap.size) ⟨_, 3, rfl, (fun e => by cases e), Nat.le_refl _, by decide, fun _ => ⟨w8.heap.size, 0, rfl, by simp, fun j hj => by
    have hj' : j < 3 := hj
    rcases j with _ | _ | _ | j
    · exact ⟨tblk_cell h9 rfl, tblk_cell h9 rfl⟩
    · exact ⟨tblk_cell h9 rfl, tblk_cell h9 rfl⟩
    · exact ⟨tblk_cell h9 rfl, tblk_cell h9 rfl⟩
    · omega⟩⟩)
  go_wp2_with fail
  refine HSM.out.mono ?_
  rintro e w10 ⟨rfl, B10⟩
  have B80 := U9.trans (B10.mono U9.size)
  have HF1 := hidS (tblk_below HF1.out B80)
  have g5 := tblk_below g5 B80
  have g8 := tblk_below g8 B80
  have HF := hidS ((HF.out.keep B80).mono B80.size)
  have HW10 := hidS (HW8.out.trans (B80.mono HW8.out.size))
  have P10 := hidS (P8.out.keep B80)
  have Q10 := hidS (Q8.out.keep B80)
  clear HSM h9 U9 B10 P8 Q8 HW8 g3 a1 a2 a3 O8 B80
  have b0 : w10.cell? ⟨w4.heap.size, 0, none⟩ = some (.int .i64 404) := tblk_cell g5 rfl
  have b3 : w10.cell? ⟨w4.heap.size, 3, none⟩ = some (.slice ao2 2 co2) := tblk_cell g5 rfl
  have c3 : w10.cell? ⟨w7.heap.size, 3, none⟩ = some (.slice ao3 backA.length co3) := tblk_cell g8 rfl
  have c4 : w10.cell? ⟨w7.heap.size, 4, none⟩ = some (.slice bo3 2 cb3) := tblk_cell g8 rfl
  have x3 : w10.cell? ⟨w.heap.size + 1, 3, none⟩ = some (.slice (some ⟨w.heap.size, 0, none⟩) 4 4) := tblk_cell HF1.out rfl
  obtain ⟨kk, S10, _⟩ := Q10.out.src
  have hcb : (convert 23 9 (.slice bo3 2 cb3)).run Tryz.prog w10 = .ok (.string ⟨#[97, 98]⟩) w10 := conv_back S10 (by decide)
  obtain ⟨a9, c9, e9, _, _, _, hc9⟩ := P10.out.fds
  obtain ⟨rfl, _, rfl⟩ := slice_inj e9
  obtain ⟨gg, oo, rfl, _, hcc⟩ := hc9 (by decide)
  have d3 : w10.cell? ⟨gg, oo + 2 + 1, none⟩ = some (.string ⟨#[50]⟩) := (hcc 1 (by decide)).2
  have HH : Hid (∀ W, Below w10.heap.size w10 W → ∀ n : ByteArray, n.size ≤ 1000 → Calls Tryz.prog 11 #[.slice (some ⟨w.heap.size, 0, none⟩) 4 4, .string n] W fun e w' => e = .returned (.bool (hopP (listF fsA connN) n)) ∧ Below W.heap.size W w') := fun W BW n hn => schop_name fsA _ 4 n W ((HF.out.keep BW).mono BW.size) al_bd (by decide) (by omega) (HM.out.below (HW10.out.trans (BW.mono HW10.out.size)))
  have HX := HH.out w10 (Below.refl _ _) ⟨#[120]⟩ (by decide)
  rw [al_x] at HX
  have HX := hidS HX
  clear e9 hc9 hcc S10 Q10 P10 HF g5 g8
  go_wp2_with fail
  refine HX.out.mono ?_
  rintro e w11 ⟨rfl, B11⟩
  have x3 := (B11.cell (p := ⟨w.heap.size + 1, 3, none⟩) (heap_lt HF1.out)).trans x3
  have HY := HH.out w11 B11 ⟨#[121]⟩ (by decide)
  rw [al_y] at HY
  have HY := hidS HY
  have HW11 := hidS (HW10.out.trans (B11.mono HW10.out.size))
  clear HX HH B11 HW10 b0 b3 c3 c4 d3 hcb HF1
  go_wp2_with fail
  refine HY.out.mono ?_
  rintro e w12 ⟨rfl, B12⟩
  have HW12 := hidS (HW11.out.trans (B12.mono HW11.out.size))
  clear HY B12 HW11 x3
  go_wp2
  go_ret
  exact ⟨rfl, HW12.out⟩
end Go.Proofs.YtajfjjmabncldaaGreatDoor
