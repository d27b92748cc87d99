/- Package http: WriteRequest, Host, Waits. -/
import Derived.Test.YthbjdbookiejeabGreatDoorHtH
namespace Go.Proofs.YthbjdbookiejeabGreatDoor
open Go.RowKit
set_option linter.unusedVariables false

def hostQ (fs : Fs) : ByteArray := match getF fs tHost with
  | [] => ⟨#[]⟩
  | h :: _ => (hostP h).1

set_option maxRecDepth 100000 in
set_option maxHeartbeats 2000000 in
theorem hhost_any (m t : ByteArray) (minor : Int) (fs : Fs) (a b : Option Addr) (c x y : Nat) (w : World) (hf : Fds w.heap.size w (.slice a fs.length c) fs) (hb : FBd 1000 fs) (hl : fs.length ≤ 1024) :
    Calls Tryz.prog 20 #[.agg #[.string m, .string t, .int .i64 minor, .slice a fs.length c, .slice b x y]] w fun e w' => e = .returned (.string (hostQ fs)) ∧ Below w.heap.size w w' := by
  have C0 : Below w.heap.size w (w.alloc (.cells #[.string m, .string t, .int .i64 minor, .slice a fs.length c, .slice b x y] 26)) := (Below.refl _ _).alloc (Nat.le_refl _) _
  have HG : Hid (Calls Tryz.prog 41 #[.slice a fs.length c, .string ⟨#[72, 111, 115, 116]⟩] (w.alloc (.cells #[.string m, .string t, .int .i64 minor, .slice a fs.length c, .slice b x y] 26)) fun e w' => ∃ ao cv, e = .returned (.slice ao (getF fs tHost).length cv) ∧ OwnT (w.heap.size + 1) w' (.slice ao (getF fs tHost).length cv) (getF fs tHost) ∧ Below w.heap.size w w') := by
    refine (get_any fs a c tHost _ (hf.over C0) (bd_huge hb) (by decide) (by omega)).mono ?_
    rintro e w' ⟨ao, cv, he, hO, hB⟩
    exact ⟨ao, cv, he, (by have k := hO; simpa using k), C0.trans (hB.mono C0.size)⟩
  have hbd : Hid (TBd 1000 (getF fs tHost)) := getF_bd hb
  unfold hostQ
  generalize getF fs tHost = hs at *
  clear hf hb hl C0
  match hs, HG, hbd with
  | [], HG, _ =>
    show Calls Tryz.prog 20 _ w fun e w' => e = .returned (.string ⟨#[]⟩) ∧ Below w.heap.size w w'
    have HG2 : Hid (Calls Tryz.prog 41 #[.slice a fs.length c, .string ⟨#[72, 111, 115, 116]⟩] (w.alloc (.cells #[.string m, .string t, .int .i64 minor, .slice a fs.length c, .slice b x y] 26)) fun e w' => ∃ ao cv, e = .returned (.slice ao 0 cv) ∧ Below w.heap.size w w') := by
      refine HG.out.mono ?_
      rintro e w' ⟨ao, cv, he, _, hB⟩
      exact ⟨ao, cv, he, hB⟩
    clear HG
    go_enter Tryz.func20, Tryz.ntmps20
    go_wp2_with fail
    refine HG2.out.mono ?_
    rintro e w1 ⟨ao, cv, rfl, B1⟩
    go_wp2
    go_ret
    exact ⟨rfl, B1⟩
  | h :: r, HG, hbd =>
    show Calls Tryz.prog 20 _ w fun e w' => e = .returned (.string (hostP h).1) ∧ Below w.heap.size w w'
    have hsz := hbd.out h (List.mem_cons_self ..)
    have HH : Hid (∀ W, Calls Tryz.prog 19 #[.string h] W fun e w' => e = .returned (.tuple #[.string (hostP h).1, .bool (hostP h).2]) ∧ Below W.heap.size W w') := fun W => host_any h W (by unfold maxLen; omega)
    have HG2 : Hid (Calls Tryz.prog 41 #[.slice a fs.length c, .string ⟨#[72, 111, 115, 116]⟩] (w.alloc (.cells #[.string m, .string t, .int .i64 minor, .slice a fs.length c, .slice b x y] 26)) fun e w' => ∃ g off cv, e = .returned (.slice (some ⟨g, off, none⟩) (r.length + 1) cv) ∧ Below w.heap.size w w' ∧ w'.cell? ⟨g, off, none⟩ = some (.string h) ∧ r.length + 1 ≤ 9223372036854775807) := by
      refine HG.out.mono ?_
      rintro e w' ⟨ao, cv, he, hO, hB⟩
      obtain ⟨a', c', e', _, hl1, hl2, h4⟩ := hO.txs
      obtain ⟨rfl, _, rfl⟩ := slice_inj e'
      obtain ⟨g, off, rfl, _, hc⟩ := h4 (Nat.succ_pos _)
      refine ⟨g, off, cv, he, hB, hc 0 (Nat.succ_pos _), ?_⟩
      have e2 : (h :: r).length = r.length + 1 := rfl
      unfold maxLen at hl2
      omega
    clear HG hbd hsz
    generalize hostP h = hp at *
    obtain ⟨h1, h2⟩ := hp
    have h1' : ¬ (((r.length + 1 : Nat) : Int)) = 0 := by omega
    have h1'' : ((((r.length + 1 : Nat) : Int)) == 0) = false := by simpa using h1'
    generalize r.length + 1 = n at *
    go_enter Tryz.func20, Tryz.ntmps20
    go_wp2_with fail
    refine HG2.out.mono ?_
    rintro e w1 ⟨g, off, cv, rfl, B1, q, hn63⟩
    have hn0 : 0 < n := by omega
    go_wp2_with fail
    refine (HH.out _).mono ?_
    rintro e w2 ⟨rfl, B2⟩
    have C2 := B1.trans (B2.mono B1.size)
    go_wp2
    go_ret
    exact ⟨rfl, C2⟩

set_option maxRecDepth 100000 in
set_option maxHeartbeats 4000000 in
theorem wreq_any (m t : ByteArray) (n : Int) (fs : Fs) (body : List UInt8) (a b : Option Addr) (kb c d : Nat) (h0 : -9223372036854775808 ≤ n) (h1 : n ≤ 9223372036854775807) (hi : (itoaS n).size ≤ 21) (w : World) (ht : PowT w) (hm : m.size ≤ 1048576) (htl : t.size ≤ 1048576) (hf : Fds w.heap.size w (.slice a fs.length c) fs) (hb : FBd 1048576 fs) (hl : fs.length ≤ 1024) (hs : Src w kb (.slice b body.length d) body) (hk : 0 < body.length → kb < w.heap.size) (hnil : b = none → d = 0) (hb1 : body.length ≤ 1048576) :
    Calls Tryz.prog 26 #[.agg #[.string m, .string t, .int .i64 n, .slice a fs.length c, .slice b body.length d]] w fun e w' => ∃ v, e = .returned v ∧ OwnG w.heap.size w' v (writeB (reqT m t (verT n)) fs body) ∧ Below w.heap.size w w' := by
  have hv : (verT n).size ≤ 28 := by unfold verT; rw [lcat_size]; show 7 + _ ≤ _; omega
  have hrs : (reqT m t (verT n)).size ≤ 4294967296 := by
    unfold reqT
    rw [lcat_size, lcat_size, lcat_size, lcat_size, lcat_size]
    show _ + 1 + _ + 1 + _ + 2 ≤ _
    omega
  have H : Hid (∀ W, PI w (.cells #[.string m, .string t, .int .i64 n, .slice a fs.length c, .slice b body.length d] 26) W → Calls Tryz.prog 49 #[.agg #[.string m, .string t, .int .i64 n, .slice a fs.length c, .slice b body.length d]] W fun e w' => e = .returned (.string (reqT m t (verT n))) ∧ PI w (.cells #[.string m, .string t, .int .i64 n, .slice a fs.length c, .slice b body.length d] 26) w' ∧ w'.cell? ⟨w.heap.size, 0, none⟩ = some (.string m) ∧ w'.cell? ⟨w.heap.size, 1, none⟩ = some (.string t) ∧ w'.cell? ⟨w.heap.size, 2, none⟩ = some (.int .i64 n) ∧ w'.cell? ⟨w.heap.size, 3, none⟩ = some (.slice a fs.length c) ∧ w'.cell? ⟨w.heap.size, 4, none⟩ = some (.slice b body.length d)) := fun W i => (reqline_any m t n h0 h1 hi W (ht.below i.below) (by omega) (by omega)).mono fun e w' z => ⟨z.1, i.next z.2, tblk_cell (i.next z.2).own rfl, tblk_cell (i.next z.2).own rfl, tblk_cell (i.next z.2).own rfl, tblk_cell (i.next z.2).own rfl, tblk_cell (i.next z.2).own rfl⟩
  have HW : Hid (∀ W, PI w (.cells #[.string m, .string t, .int .i64 n, .slice a fs.length c, .slice b body.length d] 26) W → Calls Tryz.prog 62 #[.string (reqT m t (verT n)), .slice a fs.length c, .slice b body.length d] W fun e w' => ∃ v, e = .returned v ∧ OwnG w.heap.size w' v (writeB (reqT m t (verT n)) fs body) ∧ Below w.heap.size w w' ∧ w'.cell? ⟨w.heap.size, 0, none⟩ = some (.string m) ∧ w'.cell? ⟨w.heap.size, 1, none⟩ = some (.string t) ∧ w'.cell? ⟨w.heap.size, 2, none⟩ = some (.int .i64 n) ∧ w'.cell? ⟨w.heap.size, 3, none⟩ = some (.slice a fs.length c) ∧ w'.cell? ⟨w.heap.size, 4, none⟩ = some (.slice b body.length d)) := fun W i => by
    refine (write_any _ fs body a b kb c d W (hf.over i.below) hb hl (hs.keep hk i.below) (fun q => Nat.lt_of_lt_of_le (hk q) i.below.size) hnil hrs (by omega)).mono ?_
    rintro e w' ⟨v, he, hO, hB⟩
    exact ⟨v, he, hO.mono i.below.size, i.below.trans (hB.mono i.below.size), tblk_cell (i.next hB).own rfl, tblk_cell (i.next hB).own rfl, tblk_cell (i.next hB).own rfl, tblk_cell (i.next hB).own rfl, tblk_cell (i.next hB).own rfl⟩
  have I0 := PI.new w (.cells #[.string m, .string t, .int .i64 n, .slice a fs.length c, .slice b body.length d] 26)
  generalize writeB (reqT m t (verT n)) fs body = X at *
  generalize reqT m t (verT n) = first at *
  clear h0 h1 ht hi hm htl hv hf hb hl hs hk hnil hb1 hrs
  generalize fs.length = fl at *
  generalize body.length = bl at *
  go_enter Tryz.func26, Tryz.ntmps26
  go_wp2_with fail
  go_region_held3 (fun W => W.cell? ⟨w.heap.size, 0, none⟩ = some (.string m) ∧ W.cell? ⟨w.heap.size, 1, none⟩ = some (.string t) ∧ W.cell? ⟨w.heap.size, 2, none⟩ = some (.int .i64 n) ∧ W.cell? ⟨w.heap.size, 3, none⟩ = some (.slice a fl c) ∧ W.cell? ⟨w.heap.size, 4, none⟩ = some (.slice b bl d)) (go_keep) (first | (go_at_call 49; refine (H.out _ (by first | assumption | exact PI.drew I0 | exact PI.drew (by assumption))).mono ?_; rintro e w' ⟨rfl, hI, hS0, hS1, hS2, hS3, hS4⟩) | (go_at_call 62; refine (HW.out _ (by first | assumption | exact PI.drew I0 | exact PI.drew (by assumption))).mono ?_; rintro e w' ⟨vx, rfl, hO, hB, hS0, hS1, hS2, hS3, hS4⟩))
  go_wp2
  go_ret
  exact ⟨_, rfl, hO, hB⟩
end Go.Proofs.YthbjdbookiejeabGreatDoor
