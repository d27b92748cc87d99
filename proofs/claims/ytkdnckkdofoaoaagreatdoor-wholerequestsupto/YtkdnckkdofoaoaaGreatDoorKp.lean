/- Texts that the proof leans on, one behind the other: HlA HkA -/
import Derived.Test.YtkdnckkdofoaoaaGreatDoorKj
import Derived.Test.YtkdnckkdofoaoaaGreatDoorKl
import Derived.Test.YtkdnckkdofoaoaaGreatDoorKh
/- Heads, plain: right lines, one behind the other, are read as their fields. -/
namespace Go.Proofs.YtkdnckkdofoaoaaGreatDoor
open Go.RowKit
set_option linter.unusedVariables false

theorem prs_gen {n v : ByteArray} (h : okF n v = true) (sp : List UInt8) (hsp : ∀ b ∈ sp, blk b = true) : prs (tx (n.data.toList ++ 58 :: (sp ++ v.data.toList))) = (n, v, 0) := by
  obtain ⟨_, _, h2, h4, h5⟩ := okF_parts h
  obtain ⟨s, hs⟩ : ∃ s : ByteArray, s = tx (n.data.toList ++ 58 :: (sp ++ v.data.toList)) := ⟨_, rfl⟩
  rw [← hs]
  have hd : s.data.toList = n.data.toList ++ 58 :: (sp ++ v.data.toList) := by rw [hs]; rfl
  have hl : n.data.toList.length = n.size := rfl
  have hsz : s.size = n.size + (1 + (sp ++ v.data.toList).length) := by
    have e : s.size = s.data.toList.length := rfl
    rw [e, hd, List.length_append, List.length_cons, hl]; omega
  have hk : n.size < s.size := by rw [hsz]; omega
  have hk' : n.size < s.data.toList.length := hk
  have e0 : s.data.toList.take n.size = n.data.toList := by rw [hd, ← hl, List.take_left]
  have eb : s[n.size] = 58 := by
    show s.data.toList[n.size] = 58
    have k : s.data.toList[n.size]? = some 58 := by
      rw [hd, List.getElem?_append_right (by omega), hl, Nat.sub_self]; rfl
    rw [List.getElem?_eq_getElem hk'] at k
    exact Option.some.inj k
  have e1 : s.extract 0 n.size = n := bytes_eq (by rw [ext_data, e0]; rfl)
  have e2 : trimT (s.extract (n.size + 1) s.size) = v := by
    have e3 : (s.extract (n.size + 1) s.size).data.toList = sp ++ v.data.toList := by
      rw [ext_data, List.take_of_length_le (show s.data.toList.length ≤ s.size from Nat.le_refl _), hd]
      have e4 : n.data.toList ++ 58 :: (sp ++ v.data.toList) = (n.data.toList ++ [58]) ++ (sp ++ v.data.toList) := by simp
      rw [e4]
      have e5 : n.size + 1 = (n.data.toList ++ [58]).length := by simp
      rw [e5, List.drop_left]
    refine bytes_eq ?_
    show trimP _ = _
    rw [e3]
    have h6 : trimP v.data.toList = v.data.toList := congrArg (fun x : ByteArray => x.data.toList) h5
    have f1 : NF v.data.toList := by rw [← h6]; exact trim_front _
    have f2 : NL v.data.toList := by rw [← h6]; exact trim_last _
    have k := trim_around sp v.data.toList [] hsp (fun b hb => by cases hb) f1 f2
    simpa using k
  rw [prs_at s n.size hk (fun b hb => by
    rw [e0] at hb
    unfold allB at h2
    rw [List.all_eq_true] at h2
    exact (tok_no b (h2 b hb)).1) eb, e1, e2, h]
  rfl
/-- A line that is a field. -/
structure GoodL (l : List UInt8) : Prop where
  pl : plain l = true
  ne : ¬ l = []
  ok : fldOk l = true
  le : l.length ≤ 2046
/-- The line of a right field, with these blanks behind the colon. -/
def linF (n v : ByteArray) (sp : List UInt8) : List UInt8 := n.data.toList ++ 58 :: (sp ++ v.data.toList)
theorem plain_app (a b : List UInt8) : plain (a ++ b) = (plain a && plain b) := by unfold plain; rw [List.all_append]
theorem plain_of {l : List UInt8} (h : ∀ b ∈ l, b ≠ 13 ∧ b ≠ 10) : plain l = true := by
  unfold plain
  rw [List.all_eq_true]
  intro b hb
  have k := h b hb
  simp [k.1, k.2]
theorem good_lin {n v : ByteArray} (h : okF n v = true) (sp : List UInt8) (hsp : ∀ b ∈ sp, blk b = true) (hl : sp.length ≤ 900) : GoodL (linF n v sp) ∧ fOf (linF n v sp) = (n, v) := by
  obtain ⟨h1, h2, h3, h4, h5⟩ := okF_parts h
  have hp := prs_gen h sp hsp
  refine ⟨⟨?_, ?_, ?_, ?_⟩, ?_⟩
  · refine plain_of fun b hb => ?_
    unfold linF at hb
    rcases List.mem_append.1 hb with k | k
    · unfold allB at h3
      rw [List.all_eq_true] at h3
      exact (tok_no b (h3 b k)).2
    · rcases List.mem_cons.1 k with k | k
      · subst k; exact ⟨by decide, by decide⟩
      · rcases List.mem_append.1 k with k | k
        · have q := hsp b k
          constructor <;> (rintro rfl; revert q; decide)
        · unfold allB at h4
          rw [List.all_eq_true] at h4
          exact val_no b (h4 b k)
  · unfold linF; simp
  · unfold fldOk linF
    rw [hp]; rfl
  · unfold linF
    have e1 : n.data.toList.length = n.size := rfl
    have e2 : v.data.toList.length = v.size := rfl
    rw [List.length_append, List.length_cons, List.length_append, e1, e2]
    omega
  · unfold fOf linF
    rw [hp]
def flatL (ls : List (List UInt8)) : List UInt8 := ls.flatMap (· ++ [13, 10])
theorem flatL_cons (l : List UInt8) (ls : List (List UInt8)) : flatL (l :: ls) = l ++ 13 :: 10 :: flatL ls := by
  unfold flatL
  rw [List.flatMap_cons, List.append_assoc]; rfl
theorem flatL_app (a b : List (List UInt8)) : flatL (a ++ b) = flatL a ++ flatL b := by unfold flatL; rw [List.flatMap_append]
theorem cut_good {l : List UInt8} (h : GoodL l) (rest : List UInt8) : cutAt 2048 0 (l ++ 13 :: 10 :: rest) = (some l.length, 0) := by
  rw [cutAt_plain 2048 rest l 0 (by decide) h.pl, if_neg (by have := h.le; omega), Nat.zero_add]
theorem good_pos {l : List UInt8} (h : GoodL l) : ¬ l.length = 0 := fun k => h.ne (List.eq_nil_of_length_eq_zero k)
theorem drop_line (l rest : List UInt8) : (l ++ 13 :: 10 :: rest).drop (l.length + 2) = rest := by
  rw [List.drop_append, List.drop_of_length_le (by omega)]
  simp
theorem lines_read (full : Bool) (rest : List UInt8) : ∀ (ls : List (List UInt8)) (r : Nat), (∀ l ∈ ls, GoodL l) → ls.length ≤ r → fldL full r (flatL ls ++ 13 :: 10 :: rest) = (ls.map fOf, (flatL ls).length + 2, 0)
  | [], r, _, _ => fldL_end (by rfl)
  | l :: ls, 0, _, h => absurd h (by simp)
  | l :: ls, r + 1, hg, h => by
    have gl := hg l (List.mem_cons_self ..)
    have ih := lines_read full rest ls r (fun x hx => hg x (List.mem_cons_of_mem _ hx)) (by simpa using h)
    rw [flatL_cons]
    have e : (l ++ 13 :: 10 :: flatL ls) ++ 13 :: 10 :: rest = l ++ 13 :: 10 :: (flatL ls ++ 13 :: 10 :: rest) := by simp
    rw [e]
    have hc := cut_good gl (flatL ls ++ 13 :: 10 :: rest)
    have ht : (l ++ 13 :: 10 :: (flatL ls ++ 13 :: 10 :: rest)).take l.length = l := List.take_left
    rw [fldL_next hc (good_pos gl) (by rw [ht]; exact gl.ok), ht, drop_line, ih]
    unfold plusH
    simp only
    rw [if_neg (by omega)]
    simp only [List.map_cons, List.singleton_append]
    congr 2
    simp only [List.length_append, List.length_cons]
    omega
theorem lines_many (full : Bool) (tail : List UInt8) : ∀ (r : Nat) (ls : List (List UInt8)), (∀ l ∈ ls, GoodL l) → r < ls.length → fldL full r (flatL ls ++ tail) = ([], 0, 431)
  | _, [], _, h => absurd h (by simp)
  | 0, l :: ls, hg, _ => by
    have gl := hg l (List.mem_cons_self ..)
    rw [flatL_cons]
    have e : (l ++ 13 :: 10 :: flatL ls) ++ tail = l ++ 13 :: 10 :: (flatL ls ++ tail) := by simp
    rw [e]
    have ht : (l ++ 13 :: 10 :: (flatL ls ++ tail)).take l.length = l := List.take_left
    exact fldL_many (cut_good gl _) (good_pos gl) (by rw [ht]; exact gl.ok)
  | r + 1, l :: ls, hg, h => by
    have gl := hg l (List.mem_cons_self ..)
    have ih := lines_many full tail r ls (fun x hx => hg x (List.mem_cons_of_mem _ hx)) (by simpa using h)
    rw [flatL_cons]
    have e : (l ++ 13 :: 10 :: flatL ls) ++ tail = l ++ 13 :: 10 :: (flatL ls ++ tail) := by simp
    rw [e]
    have ht : (l ++ 13 :: 10 :: (flatL ls ++ tail)).take l.length = l := List.take_left
    rw [fldL_next (cut_good gl _) (good_pos gl) (by rw [ht]; exact gl.ok), drop_line, ih]
    rfl
theorem cut_open (m : Nat) : ∀ (s : List UInt8) (i : Nat), plain s = true → i + s.length ≤ m → cutAt m i s = (none, 0)
  | [], i, _, _ => rfl
  | c :: s, i, h, hl => by
    unfold plain at h
    rw [List.all_cons, Bool.and_eq_true] at h
    have h1 : ¬ c = 13 ∧ ¬ c = 10 := by simpa using h.1
    rw [List.length_cons] at hl
    unfold cutAt
    rw [if_neg h1.2, if_neg h1.1, if_neg (by omega)]
    exact cut_open m s (i + 1) h.2 (by omega)
theorem cut_open13 (m : Nat) : ∀ (s : List UInt8) (i : Nat), plain s = true → i + s.length ≤ m → cutAt m i (s ++ [13]) = (none, 0)
  | [], i, _, _ => by
    show cutAt m i [13] = _
    unfold cutAt
    rw [if_neg (by decide), if_pos rfl]
    rfl
  | c :: s, i, h, hl => by
    unfold plain at h
    rw [List.all_cons, Bool.and_eq_true] at h
    have h1 : ¬ c = 13 ∧ ¬ c = 10 := by simpa using h.1
    rw [List.length_cons] at hl
    rw [List.cons_append]
    unfold cutAt
    rw [if_neg h1.2, if_neg h1.1, if_neg (by omega)]
    exact cut_open13 m s (i + 1) h.2 (by omega)
theorem plain_take {l : List UInt8} (h : plain l = true) (k : Nat) : plain (l.take k) = true := by
  unfold plain at *
  rw [List.all_eq_true] at *
  exact fun b hb => h b (List.mem_of_mem_take hb)
/-- A line that was cut off is not whole. -/
theorem cut_short {l rest : List UInt8} (h : plain l = true) (hl : l.length ≤ 2046) (K : Nat) (hK : K < l.length + 2) : cutAt 2048 0 ((l ++ 13 :: 10 :: rest).take K) = (none, 0) := by
  by_cases h1 : K ≤ l.length
  · rw [List.take_append_of_le_length h1]
    exact cut_open 2048 _ 0 (plain_take h K) (by rw [List.length_take]; omega)
  · have e : K = l.length + 1 := by omega
    subst e
    rw [List.take_append, List.take_of_length_le (by omega)]
    have e2 : (13 :: 10 :: rest).take (l.length + 1 - l.length) = [13] := by
      rw [show l.length + 1 - l.length = 1 by omega]; rfl
    rw [e2]
    exact cut_open13 2048 l 0 h (by omega)
theorem take_line (l X : List UInt8) (K : Nat) (hK : l.length + 2 ≤ K) : (l ++ 13 :: 10 :: X).take K = l ++ 13 :: 10 :: X.take (K - (l.length + 2)) := by
  obtain ⟨j, rfl⟩ : ∃ j, K = l.length + 2 + j := ⟨K - (l.length + 2), by omega⟩
  rw [show l.length + 2 + j - (l.length + 2) = j by omega, List.take_append, List.take_of_length_le (by omega)]
  rw [show l.length + 2 + j - l.length = j + 2 by omega]
  rfl
theorem lines_long (rest : List UInt8) : ∀ (ls : List (List UInt8)) (r K : Nat), (∀ l ∈ ls, GoodL l) → K < (flatL ls).length + 2 → fldL true r ((flatL ls ++ 13 :: 10 :: rest).take K) = ([], 0, 431)
  | [], r, K, _, h => by
    have k := cut_short (l := []) (rest := rest) rfl (Nat.zero_le _) K (by simpa [flatL] using h)
    exact fldL_miss k
  | l :: ls, r, K, hg, h => by
    have gl := hg l (List.mem_cons_self ..)
    rw [flatL_cons] at h ⊢
    have e : (l ++ 13 :: 10 :: flatL ls) ++ 13 :: 10 :: rest = l ++ 13 :: 10 :: (flatL ls ++ 13 :: 10 :: rest) := by simp
    rw [e]
    by_cases h1 : l.length + 2 ≤ K
    · rw [take_line _ _ _ h1]
      have ht : (l ++ 13 :: 10 :: (flatL ls ++ 13 :: 10 :: rest).take (K - (l.length + 2))).take l.length = l := List.take_left
      cases r with
      | zero => exact fldL_many (cut_good gl _) (good_pos gl) (by rw [ht]; exact gl.ok)
      | succ r =>
        have ih := lines_long rest ls r (K - (l.length + 2)) (fun x hx => hg x (List.mem_cons_of_mem _ hx)) (by
          simp only [List.length_append, List.length_cons] at h; omega)
        rw [fldL_next (cut_good gl _) (good_pos gl) (by rw [ht]; exact gl.ok), drop_line, ih]
        rfl
    · exact fldL_miss (cut_short gl.pl gl.le K (by omega))
/-- A first line and right lines behind it. -/
theorem headL_lines (st : ByteArray → Int) (f : List UInt8) (ls : List (List UInt8)) (rest : List UInt8) (hf : plain f = true) (hfl : f.length ≤ 2046) (hst : st (tx f) = 0) (hg : ∀ l ∈ ls, GoodL l) :
    firstL (f ++ 13 :: 10 :: (flatL ls ++ 13 :: 10 :: rest)) = tx f ∧ headL st (f ++ 13 :: 10 :: (flatL ls ++ 13 :: 10 :: rest)) = if f.length + 2 + ((flatL ls).length + 2) ≤ 2048 ∧ ls.length ≤ 40 then (ls.map fOf, f.length + 2 + ((flatL ls).length + 2), 0) else ([], 0, 431) := by
  have et := take_line f (flatL ls ++ 13 :: 10 :: rest) 2048 (by omega)
  have hc : cutAt 2048 0 ((f ++ 13 :: 10 :: (flatL ls ++ 13 :: 10 :: rest)).take 2048) = (some f.length, 0) := by
    rw [et, cutAt_plain 2048 _ f 0 (by decide) hf, if_neg (by omega), Nat.zero_add]
  have htk : ((f ++ 13 :: 10 :: (flatL ls ++ 13 :: 10 :: rest)).take 2048).take f.length = f := by rw [et, List.take_left]
  have hdr : ((f ++ 13 :: 10 :: (flatL ls ++ 13 :: 10 :: rest)).take 2048).drop (f.length + 2) = (flatL ls ++ 13 :: 10 :: rest).take (2048 - (f.length + 2)) := by rw [et, drop_line]
  refine ⟨by rw [firstL_hit hc, htk], ?_⟩
  rw [headL_hit hc (by rw [htk]; exact hst), hdr]
  by_cases hn : f.length + 2 + ((flatL ls).length + 2) ≤ 2048
  · have e2 := take_line (flatL ls) rest (2048 - (f.length + 2)) (by omega)
    rw [e2]
    by_cases h40 : ls.length ≤ 40
    · rw [if_pos ⟨hn, h40⟩, lines_read _ _ ls 40 hg h40]
      unfold plusH
      simp only
      rw [if_neg (by omega)]
      rfl
    · rw [if_neg (fun k => h40 k.2), lines_many _ _ 40 ls hg (by omega)]
      rfl
  · rw [if_neg (fun k => hn k.1)]
    have hfull : fullB (f ++ 13 :: 10 :: (flatL ls ++ 13 :: 10 :: rest)) = true := by
      unfold fullB
      refine decide_eq_true ?_
      simp only [List.length_append, List.length_cons]
      omega
    rw [hfull, lines_long rest ls 40 (2048 - (f.length + 2)) hg (by omega)]
    rfl
end Go.Proofs.YtkdnckkdofoaoaaGreatDoor

/- Requests of right lines without lengths; HttpHosts, plain. -/
namespace Go.Proofs.YtkdnckkdofoaoaaGreatDoor
open Go.RowKit
set_option linter.unusedVariables false

theorem told_none {fs : Fs} {minor : Int} (h1 : getF fs tTE = []) (h2 : getF fs tCL = []) : toldF fs minor = (3, 0, 0) := by
  have e1 : thereF fs tTE = false := by unfold thereF; rw [h1]; rfl
  have e2 : thereF fs tCL = false := by unfold thereF; rw [h2]; rfl
  unfold toldF
  rw [e1, e2]
  rfl
theorem body_none (b : List UInt8) (n : Nat) (hn : n ≤ b.length) : bodyQ b n 0 false = ([], n, 0) := by
  unfold bodyQ
  rw [if_neg (by decide), if_neg (by omega)]
  rfl
/-- A request of right lines that tells no length. -/
theorem reqQ_lines (f : List UInt8) (ls : List (List UInt8)) (rest : List UInt8) (hf : plain f = true) (hfl : f.length ≤ 2046) (hst : rqSt (tx f) = 0) (hg : ∀ l ∈ ls, GoodL l) (hn : f.length + 2 + ((flatL ls).length + 2) ≤ 2048) (h40 : ls.length ≤ 40) (h1 : getF (ls.map fOf) tTE = []) (h2 : getF (ls.map fOf) tCL = []) :
    reqQ (f ++ 13 :: 10 :: (flatL ls ++ 13 :: 10 :: rest)) = if hostsOk (getF (ls.map fOf) tHost) (rqP (tx f)).minor = true then ⟨(rqP (tx f)).method, (rqP (tx f)).target, (rqP (tx f)).minor, ls.map fOf, [], f.length + 2 + ((flatL ls).length + 2), 0⟩ else rdNo 400 := by
  obtain ⟨e1, e2⟩ := headL_lines rqSt f ls rest hf hfl hst hg
  rw [if_pos ⟨hn, h40⟩] at e2
  have hle : f.length + 2 + ((flatL ls).length + 2) ≤ (f ++ 13 :: 10 :: (flatL ls ++ 13 :: 10 :: rest)).length := by
    simp only [List.length_append, List.length_cons]; omega
  generalize f ++ 13 :: 10 :: (flatL ls ++ 13 :: 10 :: rest) = b at *
  have ht := told_none (fs := ls.map fOf) (minor := (rqP (tx f)).minor) h1 h2
  have hr : reqF (ls.map fOf) (rqP (tx f)).minor = (0, false, 0) := by unfold reqF; rw [ht]; rfl
  have hH : headQ b = if hostsOk (getF (ls.map fOf) tHost) (rqP (tx f)).minor = true then ⟨(rqP (tx f)).method, (rqP (tx f)).target, (rqP (tx f)).minor, ls.map fOf, f.length + 2 + ((flatL ls).length + 2), 0⟩ else hdNo 400 := by
    unfold headQ headSt
    rw [e1, e2, if_neg (show ¬ f.length + 2 + ((flatL ls).length + 2) = 0 by omega), hr]
    by_cases hh : hostsOk (getF (ls.map fOf) tHost) (rqP (tx f)).minor = true
    · rw [if_pos hh, if_pos rfl, if_pos hh]
    · rw [if_neg hh, if_neg (by decide), if_neg hh]
  unfold reqQ
  rw [hH]
  by_cases hh : hostsOk (getF (ls.map fOf) tHost) (rqP (tx f)).minor = true
  · rw [if_pos hh, if_pos hh, if_neg (show ¬ f.length + 2 + ((flatL ls).length + 2) = 0 by omega)]
    unfold bodyOf
    simp only
    rw [hr]
    simp only
    rw [body_none b _ hle]
    unfold rdOf
    simp only
    rw [if_neg (show ¬ f.length + 2 + ((flatL ls).length + 2) = 0 by omega)]
  · rw [if_neg hh, if_neg hh]
    rfl
/-- A request of right lines that are too many, or too long. -/
theorem reqQ_refused (f : List UInt8) (ls : List (List UInt8)) (rest : List UInt8) (hf : plain f = true) (hfl : f.length ≤ 2046) (hst : rqSt (tx f) = 0) (hg : ∀ l ∈ ls, GoodL l) (h : ¬ (f.length + 2 + ((flatL ls).length + 2) ≤ 2048 ∧ ls.length ≤ 40)) :
    reqQ (f ++ 13 :: 10 :: (flatL ls ++ 13 :: 10 :: rest)) = rdNo 431 := by
  obtain ⟨e1, e2⟩ := headL_lines rqSt f ls rest hf hfl hst hg
  rw [if_neg h] at e2
  unfold reqQ headQ
  rw [e2, if_pos rfl]
  rfl

def tHOST : ByteArray := ⟨#[104, 79, 83, 84]⟩
structure HostC (h : ByteArray) : Prop where
  sz : h.size ≤ 100
  tr : trimT h = h
  va : allB valP h.data.toList = true
theorem host_ok {h : ByteArray} (c : HostC h) : okF tHOST h = true := by
  unfold okF
  rw [Bool.and_eq_true]
  refine ⟨by decide +kernel, ?_⟩
  unfold okVal eqT
  rw [c.tr, c.va, decide_eq_true (by have := c.sz; omega)]
  simp
def gFirst (old : Bool) : List UInt8 := if old = true then [71, 69, 84, 32, 47, 32, 72, 84, 84, 80, 47, 49, 46, 48] else [71, 69, 84, 32, 47, 32, 72, 84, 84, 80, 47, 49, 46, 49]
def miOf (old : Bool) : Int := if old = true then 0 else 1
theorem gFirst_rq (old : Bool) : rqP (tx (gFirst old)) = ⟨⟨#[71, 69, 84]⟩, ⟨#[47]⟩, miOf old, 0⟩ := by cases old <;> kernel_rfl
def hLines (hs : List ByteArray) : List (List UInt8) := hs.map fun h => linF tHOST h []
def hostsB (old : Bool) (hs : List ByteArray) : List UInt8 := gFirst old ++ 13 :: 10 :: flatL (hLines hs)
def hostFs (hs : List ByteArray) : Fs := hs.map fun h => (tHOST, h)
theorem hostFs_get (hs : List ByteArray) (n : ByteArray) : getF (hostFs hs) n = if smT tHOST n = true then hs else [] := by
  unfold getF hostFs
  cases h : smT tHOST n
  · simp [List.filter_map, h, Function.comp_def]
  · simp [List.filter_map, h, Function.comp_def]
theorem sm_host : smT tHOST tHost = true := by decide +kernel
theorem hLines_good {hs : List ByteArray} (H : ∀ h ∈ hs, HostC h) : (∀ l ∈ hLines hs, GoodL l) ∧ (hLines hs).map fOf = hostFs hs := by
  constructor
  · intro l hl
    obtain ⟨h, hh, rfl⟩ := List.mem_map.1 hl
    exact (good_lin (host_ok (H h hh)) [] (fun b hb => by cases hb) (by decide)).1
  · unfold hLines hostFs
    rw [List.map_map]
    refine List.map_congr_left fun h hh => ?_
    exact (good_lin (host_ok (H h hh)) [] (fun b hb => by cases hb) (by decide)).2
theorem hLines_len : ∀ (hs : List ByteArray), (∀ h ∈ hs, HostC h) → (flatL (hLines hs)).length ≤ 107 * hs.length
  | [], _ => Nat.zero_le _
  | h :: hs, H => by
    have k := hLines_len hs (fun x hx => H x (List.mem_cons_of_mem _ hx))
    have c := (H h (List.mem_cons_self ..)).sz
    have e : hLines (h :: hs) = linF tHOST h [] :: hLines hs := rfl
    rw [e, flatL_cons]
    unfold linF
    have e2 : h.data.toList.length = h.size := rfl
    have e3 : tHOST.data.toList.length = 4 := rfl
    simp only [List.length_append, List.length_cons, List.nil_append, e2, e3]
    omega
theorem reqQ_hosts (old : Bool) (hs : List ByteArray) (hl : hs.length ≤ 4) (H : ∀ h ∈ hs, HostC h) :
    reqQ (hostsB old hs ++ [13, 10]) = if hostsOk hs (miOf old) = true then ⟨⟨#[71, 69, 84]⟩, ⟨#[47]⟩, miOf old, hostFs hs, [], (hostsB old hs).length + 2, 0⟩ else rdNo 400 := by
  obtain ⟨g1, g2⟩ := hLines_good H
  have hll := hLines_len hs H
  have hr := gFirst_rq old
  have hfl : (gFirst old).length = 14 := by cases old <;> rfl
  have hll2 : (hLines hs).length = hs.length := by unfold hLines; rw [List.length_map]
  have k := reqQ_lines (gFirst old) (hLines hs) [] (by cases old <;> rfl) (by rw [hfl]; decide) (by unfold rqSt; rw [hr]) g1 (by rw [hfl]; omega) (by omega) (by rw [g2, hostFs_get, if_neg (by decide +kernel)]) (by rw [g2, hostFs_get, if_neg (by decide +kernel)])
  rw [g2, hostFs_get, if_pos sm_host, hr] at k
  have e : hostsB old hs ++ [13, 10] = gFirst old ++ 13 :: 10 :: (flatL (hLines hs) ++ 13 :: 10 :: []) := by unfold hostsB; simp
  rw [e, k]
  have e2 : (gFirst old).length + 2 + ((flatL (hLines hs)).length + 2) = (hostsB old hs).length + 2 := by
    unfold hostsB
    simp only [List.length_append, List.length_cons]
    omega
  rw [e2]
def lastN : List ByteArray → ByteArray
  | [] => ⟨#[]⟩
  | hs => match hs.getLast? with | some h => (hostP h).1 | none => ⟨#[]⟩
theorem lastN_snoc (hs : List ByteArray) (h : ByteArray) : lastN (hs ++ [h]) = (hostP h).1 := by
  cases hs with
  | nil => rfl
  | cons x l =>
    show (match ((x :: l) ++ [h]).getLast? with | some h => (hostP h).1 | none => ⟨#[]⟩) = _
    rw [List.getLast?_append]
    rfl
def okAll (hs : List ByteArray) : Bool := hs.all fun h => (hostP h).2
theorem okAll_snoc (hs : List ByteArray) (h : ByteArray) : okAll (hs ++ [h]) = (okAll hs && (hostP h).2) := by
  unfold okAll; rw [List.all_append]; simp
/-- What the law reckons is what the request's hosts are. -/
theorem hosts_same (old : Bool) (hs : List ByteArray) : hostsOk hs (miOf old) = ((decide (hs.length = 1) || (old && decide (hs.length = 0))) && okAll hs) := by
  match hs with
  | [] => cases old <;> rfl
  | [h] => simp [hostsOk, okAll]
  | h :: h2 :: r => simp [hostsOk]
theorem hostQ_hosts (old : Bool) (hs : List ByteArray) (h : hostsOk hs (miOf old) = true) : hostQ (hostFs hs) = lastN hs := by
  unfold hostQ
  rw [hostFs_get, if_pos sm_host]
  match hs with
  | [] => rfl
  | [h] => rfl
  | h1 :: h2 :: r => simp [hostsOk] at h
end Go.Proofs.YtkdnckkdofoaoaaGreatDoor
