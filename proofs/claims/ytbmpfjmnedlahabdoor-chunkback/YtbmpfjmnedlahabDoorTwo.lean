/- Two lists of bytes, one behind the other, in new memory. -/
import Derived.Test.YtbmpfjmnedlahabDoorRow
namespace Go.Proofs.YtbmpfjmnedlahabDoor
open Go.RowKit
set_option linter.unusedVariables false

/-- Two lists of bytes, one behind the other, in new memory. -/
theorem two_src {w : World} {kb kc len cap lenc capc : Nat} {a ac : Option Addr} {b c : List UInt8} (hb : Src w kb (.slice a len cap) b) (hkb : 0 < b.length → kb < w.heap.size) (hc : Src w kc (.slice ac lenc capc) c) (hkc : 0 < c.length → kc < w.heap.size) (hnb : a = none → cap = 0) (hnc : ac = none → capc = 0) (hsum : b.length + c.length ≤ 140737488355328) :
    ∃ v2 w2 g3 n3 c3 w3, (Builtin.append_ #[24, 24] 24 #[.slice (some ⟨w.heap.size, 0, none⟩) 0 0, .slice a len cap]).run Tryd.prog (w.alloc (.cells #[] 5)) = .ok v2 w2 ∧
      (Builtin.append_ #[24, 24] 24 #[v2, .slice ac lenc capc]).run Tryd.prog w2 = .ok (.slice (some ⟨g3, 0, none⟩) n3 c3) w3 ∧ Src w3 g3 (.slice (some ⟨g3, 0, none⟩) n3 c3) (b ++ c) ∧ w.heap.size ≤ g3 ∧ g3 < w3.heap.size ∧ Below w.heap.size w w3 := by
  have BA : Below w.heap.size w (w.alloc (.cells #[] 5)) := (Below.refl _ _).alloc (Nat.le_refl _) _
  have S := hb.keep hkb BA
  have T := hc.keep hkc BA
  obtain ⟨v2, w2, g2, r2, A2, hg2, K2⟩ := acc_append (Acc.empty w) S hnb (by simp; omega)
  have B2 : Below w.heap.size w w2 := BA.trans (K2.below BA.size (fun k hk e => by omega))
  have hw : w.heap.size < (w.alloc (.cells #[] 5)).heap.size := by simp
  have T2 : Src w2 kc (.slice ac lenc capc) c := hc.keep hkc B2
  obtain ⟨v3, w3, g3, r3, A3, hg3, K3⟩ := acc_append A2 T2 hnc (by simp; omega)
  have hg2' : w.heap.size ≤ g2 := by omega
  have hk2 := K2.size
  obtain ⟨c3, rfl⟩ := A3.form
  exact ⟨v2, w2, g3, _, c3, w3, r2, r3, A3.src, by omega, A3.lt, B2.trans (K3.below B2.size (fun k hk e => by omega))⟩
end Go.Proofs.YtbmpfjmnedlahabDoor
