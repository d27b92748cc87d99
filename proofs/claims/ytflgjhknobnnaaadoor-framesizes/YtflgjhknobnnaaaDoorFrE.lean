/- The examples of package frame. -/
import Derived.Test.YtflgjhknobnnaaaDoorFrC
namespace Go.Proofs.YtflgjhknobnnaaaDoor
open Go.ChangeShapes Go.WideShapes Go.ChangeAt Go.RowKit
set_option linter.unusedVariables false

def oneF (g : Nat) : Value := .slice (some ⟨g, 0, none⟩) 1 1
theorem fds_one {w : World} {g : Nat} {n v : ByteArray} (h : w.heap[g]? = some (.cells #[.string n, .string v] 36)) : Fds w.heap.size w (.slice (some ⟨g, 0, none⟩) 1 1) [(n, v)] :=
  ⟨_, 1, rfl, (fun e => by cases e), Nat.le_refl _, by decide, fun _ => ⟨g, 0, rfl, heap_lt h, fun j hj => by
    have : j = 0 := by simpa using hj
    subst this
    exact ⟨tblk_cell h rfl, tblk_cell h rfl⟩⟩⟩
theorem of_any (n v : ByteArray) (w : World) : Calls Tryd.prog 16 #[.string n, .string v] w fun e w' => ∃ g, e = .returned (.slice (some ⟨g, 0, none⟩) 1 1) ∧ w.heap.size ≤ g ∧ w'.heap[g]? = some (.cells #[.string n, .string v] 36) ∧ Below w.heap.size w w' := by
  go_enter Tryd.func16, Tryd.ntmps16
  go_wp2
  go_ret
  exact ⟨_, rfl, Nat.le_refl _, tblk_new _ _, (Below.refl _ _).alloc (Nat.le_refl _) _⟩
theorem fds_nil (w : World) : Fds w.heap.size w (.slice none 0 0) [] := ⟨none, 0, rfl, fun _ => rfl, Nat.le_refl _, Nat.zero_le _, fun h => absurd h (Nat.lt_irrefl _)⟩
theorem bd_one {n v : ByteArray} (hn : n.size ≤ 1048576) (hv : v.size ≤ 1048576) : FBd 1048576 [(n, v)] := fun f hf => by
  rw [List.mem_singleton.1 hf]; exact ⟨hn, hv⟩
theorem req_one (n v : ByteArray) (x s : Int) (b : Bool) (hE : reqF [(n, v)] 1 = (x, b, s)) (hn : n.size ≤ 1048576) (hv : v.size ≤ 1048576) (W : World) (g : Nat) (hg : W.heap[g]? = some (.cells #[.string n, .string v] 36)) (hM : MaxL W) :
    Calls Tryd.prog 9 #[.slice (some ⟨g, 0, none⟩) 1 1, .int .i64 1] W fun e w' => e = .returned (.tuple #[.int .i64 x, .bool b, .int .i64 s]) ∧ Below W.heap.size W w' := by
  have k := request_any [(n, v)] (some ⟨g, 0, none⟩) 1 1 W (fds_one hg) (bd_one hn hv) (show 1 ≤ 1024 by decide) hM
  rw [hE] at k
  exact k

set_option maxRecDepth 100000 in
set_option maxHeartbeats 4000000 in
theorem alive7_any (w : World) (hM : MaxL w) : Calls Tryd.prog 8 #[] w fun e w' => e = .returned (.bool true) ∧ Below w.heap.size w w' := by
  have R0 : Hid (∀ (W : World) (g : Nat), W.heap[g]? = some (.cells #[.string ⟨#[99, 111, 110, 116, 101, 110, 116, 45, 108, 101, 110, 103, 116, 104]⟩, .string ⟨#[53, 44, 32, 53]⟩] 36) → MaxL W → Calls Tryd.prog 9 #[.slice (some ⟨g, 0, none⟩) 1 1, .int .i64 1] W fun e w' => e = .returned (.tuple #[.int .i64 5, .bool false, .int .i64 0]) ∧ Below W.heap.size W w') := req_one _ _ _ _ _ (by decide +kernel) (by decide) (by decide)
  have R1 : Hid (∀ (W : World) (g : Nat), W.heap[g]? = some (.cells #[.string ⟨#[67, 111, 110, 116, 101, 110, 116, 45, 76, 101, 110, 103, 116, 104]⟩, .string ⟨#[53, 44, 32, 54]⟩] 36) → MaxL W → Calls Tryd.prog 9 #[.slice (some ⟨g, 0, none⟩) 1 1, .int .i64 1] W fun e w' => e = .returned (.tuple #[.int .i64 0, .bool false, .int .i64 400]) ∧ Below W.heap.size W w') := req_one _ _ _ _ _ (by decide +kernel) (by decide) (by decide)
  have R2 : Hid (∀ (W : World) (g : Nat), W.heap[g]? = some (.cells #[.string ⟨#[67, 111, 110, 116, 101, 110, 116, 45, 76, 101, 110, 103, 116, 104]⟩, .string ⟨#[52, 48, 57, 55]⟩] 36) → MaxL W → Calls Tryd.prog 9 #[.slice (some ⟨g, 0, none⟩) 1 1, .int .i64 1] W fun e w' => e = .returned (.tuple #[.int .i64 0, .bool false, .int .i64 413]) ∧ Below W.heap.size W w') := req_one _ _ _ _ _ (by decide +kernel) (by decide) (by decide)
  have R3 : Hid (∀ (W : World) (g : Nat), W.heap[g]? = some (.cells #[.string ⟨#[84, 114, 97, 110, 115, 102, 101, 114, 45, 69, 110, 99, 111, 100, 105, 110, 103]⟩, .string ⟨#[103, 122, 105, 112, 44, 32, 99, 104, 117, 110, 107, 101, 100]⟩] 36) → MaxL W → Calls Tryd.prog 9 #[.slice (some ⟨g, 0, none⟩) 1 1, .int .i64 1] W fun e w' => e = .returned (.tuple #[.int .i64 0, .bool false, .int .i64 501]) ∧ Below W.heap.size W w') := req_one _ _ _ _ _ (by decide +kernel) (by decide) (by decide)
  have R4 : Hid (∀ (W : World) (g : Nat), W.heap[g]? = some (.cells #[.string ⟨#[84, 114, 97, 110, 115, 102, 101, 114, 45, 69, 110, 99, 111, 100, 105, 110, 103]⟩, .string ⟨#[67, 104, 117, 110, 107, 101, 100]⟩] 36) → MaxL W → Calls Tryd.prog 9 #[.slice (some ⟨g, 0, none⟩) 1 1, .int .i64 1] W fun e w' => e = .returned (.tuple #[.int .i64 0, .bool true, .int .i64 0]) ∧ Below W.heap.size W w') := req_one _ _ _ _ _ (by decide +kernel) (by decide) (by decide)
  have RP : Hid (∀ (W : World) (g : Nat), W.heap[g]? = some (.cells #[.string ⟨#[67, 111, 110, 116, 101, 110, 116, 45, 76, 101, 110, 103, 116, 104]⟩, .string ⟨#[51]⟩] 36) → MaxL W → Calls Tryd.prog 13 #[.string ⟨#[71, 69, 84]⟩, .agg #[.int .i64 200, .string ⟨#[]⟩, .int .i64 1, .slice (some ⟨g, 0, none⟩) 1 1, .slice none 0 0]] W fun e w' => e = .returned (.tuple #[.int .i64 1, .int .i64 3, .bool true]) ∧ Below W.heap.size W w') := fun W g hg hM => by
    have k := response_any ⟨#[71, 69, 84]⟩ ⟨#[]⟩ 200 1 [(⟨#[67, 111, 110, 116, 101, 110, 116, 45, 76, 101, 110, 103, 116, 104]⟩, ⟨#[51]⟩)] (some ⟨g, 0, none⟩) none 1 0 0 W (fds_one hg) (bd_one (by decide) (by decide)) (by decide) hM
    rw [show respF ⟨#[71, 69, 84]⟩ 200 1 [(⟨#[67, 111, 110, 116, 101, 110, 116, 45, 76, 101, 110, 103, 116, 104]⟩, ⟨#[51]⟩)] = (1, 3, true) by decide +kernel] at k
    exact k
  have Q0 : Hid (∀ W, MaxL W → Calls Tryd.prog 11 #[.slice none 0 0, .int .i64 0] W fun e w' => e = .returned (.bool true) ∧ Below W.heap.size W w') := fun W hM => by
    have k := closes_any [] none 0 0 W (fds_nil W) (fun f hf => by cases hf) (by decide) hM
    rw [show closesF [] 0 = true by decide +kernel] at k
    exact k
  have Q1 : Hid (∀ W, MaxL W → Calls Tryd.prog 11 #[.slice none 0 0, .int .i64 1] W fun e w' => e = .returned (.bool false) ∧ Below W.heap.size W w') := fun W hM => by
    have k := closes_any [] none 0 1 W (fds_nil W) (fun f hf => by cases hf) (by decide) hM
    rw [show closesF [] 1 = false by decide +kernel] at k
    exact k
  have Q2 : Hid (∀ (W : World) (g : Nat), W.heap[g]? = some (.cells #[.string ⟨#[99, 111, 110, 110, 101, 99, 116, 105, 111, 110]⟩, .string ⟨#[120, 44, 32, 67, 108, 111, 115, 101]⟩] 36) → MaxL W → Calls Tryd.prog 11 #[.slice (some ⟨g, 0, none⟩) 1 1, .int .i64 1] W fun e w' => e = .returned (.bool true) ∧ Below W.heap.size W w') := fun W g hg hM => by
    have k := closes_any [(⟨#[99, 111, 110, 110, 101, 99, 116, 105, 111, 110]⟩, ⟨#[120, 44, 32, 67, 108, 111, 115, 101]⟩)] (some ⟨g, 0, none⟩) 1 1 W (fds_one hg) (bd_one (by decide) (by decide)) (by decide) hM
    rw [show closesF [(⟨#[99, 111, 110, 110, 101, 99, 116, 105, 111, 110]⟩, ⟨#[120, 44, 32, 67, 108, 111, 115, 101]⟩)] 1 = true by decide +kernel] at k
    exact k
  go_enter Tryd.func8, Tryd.ntmps8
  go_wp2_with fail
  refine (of_any _ _ _).mono ?_
  rintro e w1 ⟨g1, rfl, hl1, hg1, B1⟩
  have D1 : Below w.heap.size w w1 := B1
  have M1 := hM.below D1
  go_wp2_with fail
  refine (R0.out _ _ hg1 M1).mono ?_
  rintro e w2 ⟨rfl, B2⟩
  have D2 : Below w.heap.size w w2 := D1.trans (B2.mono D1.size)
  have M2 := hM.below D2
  clear R0
  go_wp2_with fail
  refine (of_any _ _ _).mono ?_
  rintro e w3 ⟨g3, rfl, hl3, hg3, B3⟩
  have D3 : Below w.heap.size w w3 := D2.trans (B3.mono D2.size)
  have M3 := hM.below D3
  go_wp2_with fail
  refine (R1.out _ _ hg3 M3).mono ?_
  rintro e w4 ⟨rfl, B4⟩
  have D4 : Below w.heap.size w w4 := D3.trans (B4.mono D3.size)
  have M4 := hM.below D4
  clear R1
  go_wp2_with fail
  refine (of_any _ _ _).mono ?_
  rintro e w5 ⟨g5, rfl, hl5, hg5, B5⟩
  have D5 : Below w.heap.size w w5 := D4.trans (B5.mono D4.size)
  have M5 := hM.below D5
  go_wp2_with fail
  refine (R2.out _ _ hg5 M5).mono ?_
  rintro e w6 ⟨rfl, B6⟩
  have D6 : Below w.heap.size w w6 := D5.trans (B6.mono D5.size)
  have M6 := hM.below D6
  clear R2
  go_wp2_with fail
  refine (of_any _ _ _).mono ?_
  rintro e w7 ⟨g7, rfl, hl7, hg7, B7⟩
  have D7 : Below w.heap.size w w7 := D6.trans (B7.mono D6.size)
  have M7 := hM.below D7
  go_wp2_with fail
  refine (R3.out _ _ hg7 M7).mono ?_
  rintro e w8 ⟨rfl, B8⟩
  have D8 : Below w.heap.size w w8 := D7.trans (B8.mono D7.size)
  have M8 := hM.below D8
  clear R3
  go_wp2_with fail
  refine (of_any _ _ _).mono ?_
  rintro e w9 ⟨g9, rfl, hl9, hg9, B9⟩
  have D9 : Below w.heap.size w w9 := D8.trans (B9.mono D8.size)
  have M9 := hM.below D9
  go_wp2_with fail
  refine (R4.out _ _ hg9 M9).mono ?_
  rintro e w10 ⟨rfl, B10⟩
  have D10 : Below w.heap.size w w10 := D9.trans (B10.mono D9.size)
  have M10 := hM.below D10
  clear R4
  go_wp2_with fail
  refine (of_any _ _ _).mono ?_
  rintro e w11 ⟨g11, rfl, hl11, hg11, B11⟩
  have D11 : Below w.heap.size w w11 := D10.trans (B11.mono D10.size)
  have M11 := hM.below D11
  go_wp2_with fail
  refine (RP.out _ _ hg11 M11).mono ?_
  rintro e w12 ⟨rfl, B12⟩
  have D12 : Below w.heap.size w w12 := D11.trans (B12.mono D11.size)
  have M12 := hM.below D12
  clear RP
  go_wp2_with fail
  refine (Q0.out _ M12).mono ?_
  rintro e w13 ⟨rfl, B13⟩
  have D13 : Below w.heap.size w w13 := D12.trans (B13.mono D12.size)
  have M13 := hM.below D13
  clear Q0
  go_wp2_with fail
  refine (Q1.out _ M13).mono ?_
  rintro e w14 ⟨rfl, B14⟩
  have D14 : Below w.heap.size w w14 := D13.trans (B14.mono D13.size)
  have M14 := hM.below D14
  clear Q1
  go_wp2_with fail
  refine (of_any _ _ _).mono ?_
  rintro e w15 ⟨g15, rfl, hl15, hg15, B15⟩
  have D15 : Below w.heap.size w w15 := D14.trans (B15.mono D14.size)
  have M15 := hM.below D15
  go_wp2_with fail
  refine (Q2.out _ _ hg15 M15).mono ?_
  rintro e w16 ⟨rfl, B16⟩
  have D16 : Below w.heap.size w w16 := D15.trans (B16.mono D15.size)
  have M16 := hM.below D16
  clear Q2
  go_wp2
  go_ret
  exact ⟨rfl, D16⟩
end Go.Proofs.YtflgjhknobnnaaaDoor
