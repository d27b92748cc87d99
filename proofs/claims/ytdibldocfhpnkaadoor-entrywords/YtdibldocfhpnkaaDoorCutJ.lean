/- Words joined by blanks are cut again into them. -/
import Derived.Test.YtdibldocfhpnkaaDoorCutW
import Derived.Lib.Join
namespace Go.Proofs.YtdibldocfhpnkaaDoor
open Go.RowKit
set_option linter.unusedVariables false

theorem cutw_piece : ∀ (x acc l : List UInt8), 32 ∉ x → cutw acc (x ++ 32 :: l) = (acc ++ x) :: cutw [] l
  | [], acc, l, _ => by simp [cutw]
  | b :: x, acc, l, h => by
    have hb : b ≠ 32 := fun e => h (by rw [e]; exact List.mem_cons_self)
    rw [List.cons_append, cutw, if_neg hb, cutw_piece x _ l (fun e => h (List.mem_cons_of_mem _ e))]
    simp
theorem cutw_last : ∀ (x acc : List UInt8), 32 ∉ x → cutw acc x = [acc ++ x]
  | [], acc, _ => by simp [cutw]
  | b :: x, acc, h => by
    have hb : b ≠ 32 := fun e => h (by rw [e]; exact List.mem_cons_self)
    rw [cutw, if_neg hb, cutw_last x _ (fun e => h (List.mem_cons_of_mem _ e))]
    simp
theorem joinT_cons (y : List UInt8) (r : List (List UInt8)) : Lib.joinTail [32] (y :: r) = 32 :: (y ++ Lib.joinTail [32] r) := by
  unfold Lib.joinTail
  rw [List.map_cons, List.flatten_cons]
  simp
theorem cutw_all : ∀ (r : List (List UInt8)) (x : List UInt8), 32 ∉ x → (∀ y ∈ r, (32 : UInt8) ∉ y) → cutw [] (x ++ Lib.joinTail [32] r) = x :: r
  | [], x, h, _ => by
    have e : Lib.joinTail [32] [] = [] := rfl
    rw [e, List.append_nil, cutw_last _ _ h]
    rfl
  | y :: r, x, h, hr => by
    rw [joinT_cons, cutw_piece _ _ _ h, cutw_all r y (hr y List.mem_cons_self) (fun z hz => hr z (List.mem_cons_of_mem _ hz))]
    rfl
end Go.Proofs.YtdibldocfhpnkaaDoor
