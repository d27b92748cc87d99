/- The methods of clock's queue, asked for through an interface. -/
import Derived.Test.YtofnnphpogpcdaaClB
namespace Go.Proofs.Ytofnnphpogpcdaa
open Go.RowKit
set_option linter.unusedVariables false

theorem mt_push (n : Nat) (p : Option Addr) (w : World) : (method (n + 1) 61 (.pointer p) "Push").run Try.prog w = .ok (47, .pointer p) w := by kernel_rfl
theorem mt_pop (n : Nat) (p : Option Addr) (w : World) : (method (n + 1) 61 (.pointer p) "Pop").run Try.prog w = .ok (46, .pointer p) w := by kernel_rfl
theorem nilchk (P : Program) (t u : TypeId) (a : Addr) (s : String) (w : World) : (Builtin.ssaWrapNilChk_ #[t] u #[.pointer (some a), strVal "", strVal s]).run P w = .ok (.pointer (some a)) w := rfl
theorem as_addr (P : Program) (a : Addr) (w : World) : (asAddr (.pointer (some a))).run P w = .ok a w := rfl
theorem mt_val (f : FuncId) (n : Nat) (b o : Nat) (name : String) (w : World) (v : Value) (hv : w.cell? ⟨b, o, none⟩ = some v) (hm : (Array.find? (fun x => x.name == name) ((Try.prog.info? 61).get (by kernel_rfl)).methods).map (fun m => (m.path, m.func)) = some (#[], some (f, false))) : (method (n + 1) 61 (.pointer (some ⟨b, o, none⟩)) name).run Try.prog w = .ok (f, v) w := by
  have e : (loadVar 53 ⟨b, o, none⟩).run Try.prog w = .ok v w := by
    go_simp
  have hu : (underlying 61).run Try.prog w = .ok (.pointer 53) w := by kernel_rfl
  obtain ⟨m, hm1, hm2⟩ := Option.map_eq_some_iff.1 hm
  injection hm2 with hm2 hm3
  unfold method
  simp only [Sem.run_bind]
  rw [show (typeInfo 61).run Try.prog w = .ok ((Try.prog.info? 61).get (by kernel_rfl)) w from by kernel_rfl]
  simp only [Result.andThen_ok]
  rw [hm1]
  simp only [hm2, hm3, follow, Sem.run_bind, Sem.run_pure, Result.andThen_ok, receiverAt, hu, Place.get, Array.isEmpty]
  rw [if_pos (show decide ((#[] : Array FieldStep).size = 0) = true from rfl)]
  simp only [Sem.run_bind, nilchk, Result.andThen_ok, as_addr, e]
theorem mt_len (n b o : Nat) (w : World) (v : Value) (hv : w.cell? ⟨b, o, none⟩ = some v) : (method (n + 1) 61 (.pointer (some ⟨b, o, none⟩)) "Len").run Try.prog w = .ok (43, v) w := mt_val 43 n b o _ w v hv (by kernel_rfl)
theorem mt_less (n b o : Nat) (w : World) (v : Value) (hv : w.cell? ⟨b, o, none⟩ = some v) : (method (n + 1) 61 (.pointer (some ⟨b, o, none⟩)) "Less").run Try.prog w = .ok (44, v) w := mt_val 44 n b o _ w v hv (by kernel_rfl)
theorem mt_swap (n b o : Nat) (w : World) (v : Value) (hv : w.cell? ⟨b, o, none⟩ = some v) : (method (n + 1) 61 (.pointer (some ⟨b, o, none⟩)) "Swap").run Try.prog w = .ok (45, v) w := mt_val 45 n b o _ w v hv (by kernel_rfl)
end Go.Proofs.Ytofnnphpogpcdaa
