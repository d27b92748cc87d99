/- A number told in digits by a statement's own loop. -/
import Derived.Test.YtflgjhknobnnaaaDoorFrH
import Derived.Lib.SmallJoins
namespace Go.Proofs.YtflgjhknobnnaaaDoor
open Go.RowKit
set_option linter.unusedVariables false

/-- The digits so far, X, and what is left, u, of n. -/
structure DI (n u : Nat) (X : List UInt8) : Prop where
  dig : ∀ b ∈ X, 48 ≤ b.toNat ∧ b.toNat ≤ 57
  len : X.length ≤ 4
  lt : u < 10 ^ (4 - X.length)
  val : ∃ v, vN 10 X = some v ∧ u * 10 ^ X.length + v = n
theorem DI.start {n : Nat} (h : n < 10000) : DI n n [] := ⟨(fun b hb => by cases hb), by simp, h, 0, rfl, by simp⟩
theorem DI.step {n u : Nat} {X : List UInt8} (h : DI n u X) (c : X = [] ∨ 0 < u) : DI n (u / 10) (UInt8.ofNat (48 + u % 10) :: X) := by
  have hd := dgN_ofNat (u % 10) (Nat.mod_lt _ (by decide))
  have h4 : X.length ≤ 3 := by
    rcases c with rfl | c
    · simp
    · have h1 := h.lt
      have h2 := h.len
      rcases Nat.lt_or_ge X.length 4 with q | q
      · omega
      · have : X.length = 4 := by omega
        rw [this] at h1
        simp at h1
        omega
  refine ⟨?_, by simp; omega, ?_, ?_⟩
  · intro b hb
    rcases List.mem_cons.1 hb with rfl | hb
    · rw [hd.2]; have := Nat.mod_lt u (show 0 < 10 by decide); omega
    · exact h.dig b hb
  · rw [List.length_cons]
    have h1 := h.lt
    have e : 4 - X.length = (4 - (X.length + 1)) + 1 := by omega
    rw [e, Nat.pow_succ, Nat.mul_comm] at h1
    exact Nat.div_lt_of_lt_mul h1
  · obtain ⟨v, hv, he⟩ := h.val
    refine ⟨_, vN_cons _ X v hv (by rw [hd.1]; exact Nat.mod_lt _ (by decide)), ?_⟩
    rw [hd.1, List.length_cons, Nat.pow_succ]
    have e1 : u / 10 * (10 ^ X.length * 10) = (u / 10 * 10) * 10 ^ X.length := by rw [Nat.mul_comm (10 ^ X.length) 10, Nat.mul_assoc]
    have e2 : u * 10 ^ X.length = (u / 10 * 10) * 10 ^ X.length + u % 10 * 10 ^ X.length := by
      rw [← Nat.add_mul]
      congr 1
      omega
    rw [e1]; omega
theorem DI.fin {n : Nat} {X : List UInt8} (h : DI n 0 X) (c : X ≠ []) : Dgs X n := by
  obtain ⟨v, hv, he⟩ := h.val
  have h2 := h.len
  refine ⟨List.length_pos_iff.2 c, by omega, h.dig, ?_⟩
  rw [hv, ← he]; simp
theorem bytes_ext {a : ByteArray} {l : List UInt8} (h : a.data.toList = l) : a = ⟨l.toArray⟩ := by
  obtain ⟨⟨l'⟩⟩ := a
  simp at h
  rw [h]
theorem cons_data (b : UInt8) (o : ByteArray) : ((⟨#[b]⟩ : ByteArray) ++ o).data.toList = b :: o.data.toList := by
  rw [Joins.data_append]; rfl
theorem cons_size1 (b : UInt8) (o : ByteArray) : ((⟨#[b]⟩ : ByteArray) ++ o).size = o.size + 1 := by
  have h : ((⟨#[b]⟩ : ByteArray) ++ o).data.toList.length = o.data.toList.length + 1 := by rw [cons_data]; simp
  exact h
theorem conv1 (W : World) (x : Int) (b : UInt8) (h : (b.toNat : Int) = x) : (convert 27 9 (.slice (some ⟨W.heap.size, 0, none⟩) 1 1)).run Tryd.prog (W.alloc (.cells #[.int .u8 x] 5)) = .ok (.string ⟨#[b]⟩) (W.alloc (.cells #[.int .u8 x] 5)) := by
  have k := run_convert_bytes_back (P := Tryd.prog) (W.alloc (.cells #[.int .u8 x] 5)) 27 9 5 ⟨W.heap.size, 0, none⟩ 1 [b] Tryd.underlying27 Tryd.underlying5 Tryd.underlying9 (fun j hj => by
    obtain rfl : j = 0 := by simpa using hj
    rw [Lib.add_plain]
    exact tblk_cell (tblk_new _ _) (by simp [h]))
  exact k
def msr (vn vo : Value) : Nat := (intOf vn).toNat + (match vo with | .string o => if o.size = 0 then 1 else 0 | _ => 0)
theorem msr_lt {u u' : Nat} {o o' : ByteArray} (h : o.size = 0 ∨ 0 < u) (hu : u' ≤ u) (hd : 0 < u → u' < u) (ho : ¬ o'.size = 0) : msr (.int .i64 u') (.string o') < msr (.int .i64 u) (.string o) := by
  unfold msr intOf
  simp only [Int.toNat_natCast]
  rw [if_neg ho]
  rcases h with h | h
  · rw [if_pos h]; omega
  · have := hd h; split <;> omega
theorem ret_s {a b : ByteArray} (h : a = b) : Ending.returned (.string a) = .returned (.string b) := by rw [h]
theorem dig_int (u : Nat) : ((UInt8.ofNat (48 + u % 10)).toNat : Int) = 48 + (u : Int) % 10 := by
  have hd := (dgN_ofNat (u % 10) (Nat.mod_lt _ (by decide))).2
  rw [hd]; omega
end Go.Proofs.YtflgjhknobnnaaaDoor
