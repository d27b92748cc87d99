/- Package http: the head of a request. -/
import Derived.Test.YthbjdbookiejeabGreatDoorHtB
import Derived.Test.YthbjdbookiejeabGreatDoorFrC
namespace Go.Proofs.YthbjdbookiejeabGreatDoor
open Go.RowKit
set_option linter.unusedVariables false

theorem bd_big {fs : Fs} (h : FBd 1000 fs) : FBd 1048576 fs := h.mono (by decide)
theorem bd_huge {fs : Fs} (h : FBd 1000 fs) : FBd 140737488355328 fs := h.mono (by decide)

set_option maxRecDepth 100000 in
set_option maxHeartbeats 2000000 in
theorem rhosts_any (m t : ByteArray) (minor : Int) (fs : Fs) (a b : Option Addr) (c x y : Nat) (w : World) (hf : Fds w.heap.size w (.slice a fs.length c) fs) (hb : FBd 1000 fs) (hl : fs.length ≤ 1024) :
    Calls Tryz.prog 65 #[.agg #[.string m, .string t, .int .i64 minor, .slice a fs.length c, .slice b x y]] w fun e w' => e = .returned (.bool (hostsOk (getF fs tHost) minor)) ∧ Below w.heap.size w w' := by
  have hg0 := tblk_new w (.cells #[.string m, .string t, .int .i64 minor, .slice a fs.length c, .slice b x y] 26)
  have C0 : Below w.heap.size w (w.alloc (.cells #[.string m, .string t, .int .i64 minor, .slice a fs.length c, .slice b x y] 26)) := (Below.refl _ _).alloc (Nat.le_refl _) _
  have HG : Hid (Calls Tryz.prog 41 #[.slice a fs.length c, .string ⟨#[72, 111, 115, 116]⟩] (w.alloc (.cells #[.string m, .string t, .int .i64 minor, .slice a fs.length c, .slice b x y] 26)) fun e w' => ∃ ao cv, e = .returned (.slice ao (getF fs tHost).length cv) ∧ OwnT (w.heap.size + 1) w' (.slice ao (getF fs tHost).length cv) (getF fs tHost) ∧ Below w.heap.size w w' ∧ w'.heap[w.heap.size]? = some (.cells #[.string m, .string t, .int .i64 minor, .slice a fs.length c, .slice b x y] 26)) := by
    refine (get_any fs a c tHost _ (hf.over C0) (bd_huge hb) (by decide) (by omega)).mono ?_
    rintro e w' ⟨ao, cv, he, hO, hB⟩
    exact ⟨ao, cv, he, (by have k := hO; simpa using k), C0.trans (hB.mono C0.size), tblk_below hg0 hB⟩
  have hbd : Hid (TBd 1000 (getF fs tHost)) := getF_bd hb
  generalize getF fs tHost = hs at *
  clear hf hb hl hg0 C0
  match hs, HG, hbd with
  | [], HG, _ =>
    show Calls Tryz.prog 65 _ w fun e w' => e = .returned (.bool (!(minor == 1))) ∧ Below w.heap.size w w'
    have HG2 : Hid (Calls Tryz.prog 41 #[.slice a fs.length c, .string ⟨#[72, 111, 115, 116]⟩] (w.alloc (.cells #[.string m, .string t, .int .i64 minor, .slice a fs.length c, .slice b x y] 26)) fun e w' => ∃ ao cv, e = .returned (.slice ao 0 cv) ∧ Below w.heap.size w w' ∧ w'.cell? ⟨w.heap.size, 2, none⟩ = some (.int .i64 minor)) := by
      refine HG.out.mono ?_
      rintro e w' ⟨ao, cv, he, _, hB, hg⟩
      exact ⟨ao, cv, he, hB, tblk_cell hg rfl⟩
    clear HG
    go_enter Tryz.func65, Tryz.ntmps65
    go_wp2_with fail
    refine HG2.out.mono ?_
    rintro e w1 ⟨ao, cv, rfl, B1, q⟩
    go_wp2
    go_ret
    exact ⟨ret_bool (by simp [bne]), B1⟩
  | h :: r, HG, hbd =>
    show Calls Tryz.prog 65 _ w fun e w' => e = .returned (.bool (decide (r.length = 0) && (hostP h).2)) ∧ Below w.heap.size w w'
    have hsz := hbd.out h (List.mem_cons_self ..)
    have HH : Hid (∀ W, Calls Tryz.prog 19 #[.string h] W fun e w' => e = .returned (.tuple #[.string (hostP h).1, .bool (hostP h).2]) ∧ Below W.heap.size W w') := fun W => host_any h W (by unfold maxLen; omega)
    have HG2 : Hid (Calls Tryz.prog 41 #[.slice a fs.length c, .string ⟨#[72, 111, 115, 116]⟩] (w.alloc (.cells #[.string m, .string t, .int .i64 minor, .slice a fs.length c, .slice b x y] 26)) fun e w' => ∃ g off cv, e = .returned (.slice (some ⟨g, off, none⟩) (r.length + 1) cv) ∧ Below w.heap.size w w' ∧ w'.cell? ⟨g, off, none⟩ = some (.string h) ∧ r.length + 1 ≤ 9223372036854775807) := by
      refine HG.out.mono ?_
      rintro e w' ⟨ao, cv, he, hO, hB, hg⟩
      obtain ⟨a', c', e', _, hl1, hl2, h4⟩ := hO.txs
      obtain ⟨rfl, _, rfl⟩ := slice_inj e'
      obtain ⟨g, off, rfl, _, hc⟩ := h4 (Nat.succ_pos _)
      refine ⟨g, off, cv, he, hB, hc 0 (Nat.succ_pos _), ?_⟩
      have e2 : (h :: r).length = r.length + 1 := rfl
      unfold maxLen at hl2
      omega
    clear HG hbd hsz
    generalize hostP h = hp at *
    obtain ⟨h1, h2⟩ := hp
    by_cases h0 : r.length = 0
    · rw [h0] at HG2
      rw [decide_eq_true h0]
      clear h0
      go_enter Tryz.func65, Tryz.ntmps65
      go_wp2_with fail
      refine HG2.out.mono ?_
      rintro e w1 ⟨g, off, cv, rfl, B1, q, _⟩
      go_wp2_with fail
      refine (HH.out _).mono ?_
      rintro e w2 ⟨rfl, B2⟩
      have C2 := B1.trans (B2.mono B1.size)
      go_wp2
      go_ret
      exact ⟨by simp, C2⟩
    · rw [decide_eq_false h0]
      have h0' : ¬ (((r.length + 1 : Nat) : Int)) = 1 := by omega
      have h0'' : ((((r.length + 1 : Nat) : Int)) == 1) = false := by simpa using h0'
      have h1' : ¬ (((r.length + 1 : Nat) : Int)) = 0 := by omega
      have h1'' : ((((r.length + 1 : Nat) : Int)) == 0) = false := by simpa using h1'
      clear h0
      generalize r.length + 1 = n at *
      go_enter Tryz.func65, Tryz.ntmps65
      go_wp2_with fail
      refine HG2.out.mono ?_
      rintro e w1 ⟨g, off, cv, rfl, B1, q, hn63⟩
      have hn0 : 0 < n := by omega
      go_wp2_with fail
      refine (HH.out _).mono ?_
      rintro e w2 ⟨rfl, B2⟩
      have C2 := B1.trans (B2.mono B1.size)
      go_wp2
      go_ret
      exact ⟨rfl, C2⟩

set_option maxRecDepth 100000 in
set_option maxHeartbeats 2000000 in
theorem hstatus_any (m t : ByteArray) (minor : Int) (fs : Fs) (a b : Option Addr) (c x y : Nat) (w : World) (hf : Fds w.heap.size w (.slice a fs.length c) fs) (hb : FBd 1000 fs) (hl : fs.length ≤ 1024) (hM : MaxL w) :
    Calls Tryz.prog 30 #[.agg #[.string m, .string t, .int .i64 minor, .slice a fs.length c, .slice b x y]] w fun e w' => e = .returned (.int .i64 (headSt fs minor)) ∧ Below w.heap.size w w' := by
  have hg0 := tblk_new w (.cells #[.string m, .string t, .int .i64 minor, .slice a fs.length c, .slice b x y] 26)
  have C0 : Below w.heap.size w (w.alloc (.cells #[.string m, .string t, .int .i64 minor, .slice a fs.length c, .slice b x y] 26)) := (Below.refl _ _).alloc (Nat.le_refl _) _
  have HR : Hid (Calls Tryz.prog 65 #[.agg #[.string m, .string t, .int .i64 minor, .slice a fs.length c, .slice b x y]] (w.alloc (.cells #[.string m, .string t, .int .i64 minor, .slice a fs.length c, .slice b x y] 26)) fun e w' => e = .returned (.bool (hostsOk (getF fs tHost) minor)) ∧ Below w.heap.size w w' ∧ w'.cell? ⟨w.heap.size, 2, none⟩ = some (.int .i64 minor) ∧ w'.cell? ⟨w.heap.size, 3, none⟩ = some (.slice a fs.length c)) := by
    refine (rhosts_any m t minor fs a b c x y _ (hf.over C0) hb hl).mono ?_
    rintro e w' ⟨he, hB⟩
    have hg := tblk_below hg0 hB
    exact ⟨he, C0.trans (hB.mono C0.size), tblk_cell hg rfl, tblk_cell hg rfl⟩
  have HF : Hid (∀ W, Below w.heap.size w W → Calls Tryz.prog 31 #[.slice a fs.length c, .int .i64 minor] W fun e w' => e = .returned (.tuple #[.int .i64 (reqF fs minor).1, .bool (reqF fs minor).2.1, .int .i64 (reqF fs minor).2.2]) ∧ Below W.heap.size W w') := fun W B => request_any fs a c minor W (hf.over B) (bd_big hb) hl (hM.below B)
  unfold headSt
  have c0 := tblk_cell (i := 0) hg0 rfl
  have c1 := tblk_cell (i := 1) hg0 rfl
  have c2 := tblk_cell (i := 2) hg0 rfl
  have c3 := tblk_cell (i := 3) hg0 rfl
  have c4 := tblk_cell (i := 4) hg0 rfl
  clear hf hb hl hM hg0 C0
  generalize hostsOk (getF fs tHost) minor = ok at *
  generalize reqF fs minor = F at *
  obtain ⟨F1, F2, F3⟩ := F
  cases ok
  · rw [if_neg (by decide)]
    go_enter Tryz.func30, Tryz.ntmps30
    go_wp2_with fail
    refine HR.out.mono ?_
    rintro e w1 ⟨rfl, B1, q2, q3⟩
    go_wp2
    go_ret
    exact ⟨rfl, B1⟩
  · rw [if_pos rfl]
    go_enter Tryz.func30, Tryz.ntmps30
    go_wp2_with fail
    refine HR.out.mono ?_
    rintro e w1 ⟨rfl, B1, q2, q3⟩
    go_wp2_with fail
    refine (HF.out _ B1).mono ?_
    rintro e w2 ⟨rfl, B2⟩
    have C2 := B1.trans (B2.mono B1.size)
    go_wp2
    go_ret
    exact ⟨rfl, C2⟩
end Go.Proofs.YthbjdbookiejeabGreatDoor
