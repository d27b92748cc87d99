/- Token, Value and Target: what each answers of every text. -/
import Derived.Test.YtdibldocfhpnkaaDoorSgnA
namespace Go.Proofs.YtdibldocfhpnkaaDoor
open Go.RowKit
set_option linter.unusedVariables false

/-- A token's signs; the tab. -/
def sgn : ByteArray := ⟨#[33, 35, 36, 37, 38, 39, 42, 43, 45, 46, 94, 95, 96, 124, 126]⟩
def tab : ByteArray := ⟨#[9]⟩

/-- Which bytes these closures together let stand. -/
def tokP (c : Int) : Bool := spanP 97 122 c || spanP 65 90 c || spanP 48 57 c || amongP sgn c
set_option maxHeartbeats 2000000 in
theorem either4 (c : Int) (r b cap : Nat) (p0 q0 : Nat) (p1 q1 : Nat) (p2 q2 : Nat) (p3 : Nat) (w : World) (hr : w.heap[r]? = some (.cells #[.slice (some ⟨b, 0, none⟩) 4 cap] 85))
    (hb : w.heap[b]? = some (.cells #[.func (.func 53) #[] #[.pointer (some ⟨p0, 0, none⟩), .pointer (some ⟨q0, 0, none⟩)], .func (.func 53) #[] #[.pointer (some ⟨p1, 0, none⟩), .pointer (some ⟨q1, 0, none⟩)], .func (.func 53) #[] #[.pointer (some ⟨p2, 0, none⟩), .pointer (some ⟨q2, 0, none⟩)], .func (.func 54) #[] #[.pointer (some ⟨p3, 0, none⟩)]] 65)) (h0 : w.heap[p0]? = some (.cells #[.int .u8 97] 5)) (k0 : w.heap[q0]? = some (.cells #[.int .u8 122] 5)) (h1 : w.heap[p1]? = some (.cells #[.int .u8 65] 5)) (k1 : w.heap[q1]? = some (.cells #[.int .u8 90] 5)) (h2 : w.heap[p2]? = some (.cells #[.int .u8 48] 5)) (k2 : w.heap[q2]? = some (.cells #[.int .u8 57] 5)) (h3 : w.heap[p3]? = some (.cells #[.string sgn] 9)) :
    Calls Tryd.prog 52 #[.int .u8 c, .pointer (some ⟨r, 0, none⟩)] w fun e w' => e = .returned (.bool (tokP c)) ∧ w' = w := by
  have cr : w.cell? ⟨r, 0, none⟩ = some (.slice (some ⟨b, 0, none⟩) 4 cap) := sblk_cell hr rfl
  have b0 : w.cell? ⟨b, 0, none⟩ = some (.func (.func 53) #[] #[.pointer (some ⟨p0, 0, none⟩), .pointer (some ⟨q0, 0, none⟩)]) := sblk_cell hb rfl
  have b1 : w.cell? ⟨b, 1, none⟩ = some (.func (.func 53) #[] #[.pointer (some ⟨p1, 0, none⟩), .pointer (some ⟨q1, 0, none⟩)]) := sblk_cell hb rfl
  have b2 : w.cell? ⟨b, 2, none⟩ = some (.func (.func 53) #[] #[.pointer (some ⟨p2, 0, none⟩), .pointer (some ⟨q2, 0, none⟩)]) := sblk_cell hb rfl
  have b3 : w.cell? ⟨b, 3, none⟩ = some (.func (.func 54) #[] #[.pointer (some ⟨p3, 0, none⟩)]) := sblk_cell hb rfl
  clear hr hb
  unfold tokP
  go_enter Tryd.func52, Tryd.ntmps52
  go_wp2
  refine wp_loop_rounds 5 ?_
  rw [rounds_succ]
  go_wp2_with fail
  refine (span_call 97 122 c p0 q0 _ h0 k0).mono ?_
  rintro e w1 ⟨rfl, rfl⟩
  cases e0 : spanP 97 122 c
  case true =>
    go_wp2
    go_ret
    exact ⟨ret_b (by simp [e0]), rfl⟩
  case false =>
    go_wp2
    rw [rounds_succ]
    go_wp2_with fail
    refine (span_call 65 90 c p1 q1 _ h1 k1).mono ?_
    rintro e w1 ⟨rfl, rfl⟩
    cases e1 : spanP 65 90 c
    case true =>
      go_wp2
      go_ret
      exact ⟨ret_b (by simp [e1]), rfl⟩
    case false =>
      go_wp2
      rw [rounds_succ]
      go_wp2_with fail
      refine (span_call 48 57 c p2 q2 _ h2 k2).mono ?_
      rintro e w1 ⟨rfl, rfl⟩
      cases e2 : spanP 48 57 c
      case true =>
        go_wp2
        go_ret
        exact ⟨ret_b (by simp [e2]), rfl⟩
      case false =>
        go_wp2
        rw [rounds_succ]
        go_wp2_with fail
        refine (among_call sgn c p3 _ h3).mono ?_
        rintro e w1 ⟨rfl, rfl⟩
        cases e3 : amongP sgn c
        case true =>
          go_wp2
          go_ret
          exact ⟨ret_b (by simp [e3]), rfl⟩
        case false =>
          go_wp2
          rw [rounds_succ]
          go_wp2
          go_ret
          exact ⟨ret_b (by simp [e0, e1, e2, e3]), rfl⟩

/-- Which bytes these closures together let stand. -/
def valP (c : Int) : Bool := spanP 32 126 c || spanP 128 255 c || amongP tab c
set_option maxHeartbeats 2000000 in
theorem either3 (c : Int) (r b cap : Nat) (p0 q0 : Nat) (p1 q1 : Nat) (p2 : Nat) (w : World) (hr : w.heap[r]? = some (.cells #[.slice (some ⟨b, 0, none⟩) 3 cap] 85))
    (hb : w.heap[b]? = some (.cells #[.func (.func 53) #[] #[.pointer (some ⟨p0, 0, none⟩), .pointer (some ⟨q0, 0, none⟩)], .func (.func 53) #[] #[.pointer (some ⟨p1, 0, none⟩), .pointer (some ⟨q1, 0, none⟩)], .func (.func 54) #[] #[.pointer (some ⟨p2, 0, none⟩)]] 65)) (h0 : w.heap[p0]? = some (.cells #[.int .u8 32] 5)) (k0 : w.heap[q0]? = some (.cells #[.int .u8 126] 5)) (h1 : w.heap[p1]? = some (.cells #[.int .u8 128] 5)) (k1 : w.heap[q1]? = some (.cells #[.int .u8 255] 5)) (h2 : w.heap[p2]? = some (.cells #[.string tab] 9)) :
    Calls Tryd.prog 52 #[.int .u8 c, .pointer (some ⟨r, 0, none⟩)] w fun e w' => e = .returned (.bool (valP c)) ∧ w' = w := by
  have cr : w.cell? ⟨r, 0, none⟩ = some (.slice (some ⟨b, 0, none⟩) 3 cap) := sblk_cell hr rfl
  have b0 : w.cell? ⟨b, 0, none⟩ = some (.func (.func 53) #[] #[.pointer (some ⟨p0, 0, none⟩), .pointer (some ⟨q0, 0, none⟩)]) := sblk_cell hb rfl
  have b1 : w.cell? ⟨b, 1, none⟩ = some (.func (.func 53) #[] #[.pointer (some ⟨p1, 0, none⟩), .pointer (some ⟨q1, 0, none⟩)]) := sblk_cell hb rfl
  have b2 : w.cell? ⟨b, 2, none⟩ = some (.func (.func 54) #[] #[.pointer (some ⟨p2, 0, none⟩)]) := sblk_cell hb rfl
  clear hr hb
  unfold valP
  go_enter Tryd.func52, Tryd.ntmps52
  go_wp2
  refine wp_loop_rounds 4 ?_
  rw [rounds_succ]
  go_wp2_with fail
  refine (span_call 32 126 c p0 q0 _ h0 k0).mono ?_
  rintro e w1 ⟨rfl, rfl⟩
  cases e0 : spanP 32 126 c
  case true =>
    go_wp2
    go_ret
    exact ⟨ret_b (by simp [e0]), rfl⟩
  case false =>
    go_wp2
    rw [rounds_succ]
    go_wp2_with fail
    refine (span_call 128 255 c p1 q1 _ h1 k1).mono ?_
    rintro e w1 ⟨rfl, rfl⟩
    cases e1 : spanP 128 255 c
    case true =>
      go_wp2
      go_ret
      exact ⟨ret_b (by simp [e1]), rfl⟩
    case false =>
      go_wp2
      rw [rounds_succ]
      go_wp2_with fail
      refine (among_call tab c p2 _ h2).mono ?_
      rintro e w1 ⟨rfl, rfl⟩
      cases e2 : amongP tab c
      case true =>
        go_wp2
        go_ret
        exact ⟨ret_b (by simp [e2]), rfl⟩
      case false =>
        go_wp2
        rw [rounds_succ]
        go_wp2
        go_ret
        exact ⟨ret_b (by simp [e0, e1, e2]), rfl⟩

end Go.Proofs.YtdibldocfhpnkaaDoor
