/- Texts that the proof leans on, one behind the other: RsE RsF RsG RsH -/
import Derived.Test.YthmhaflkkigenaaGreatDoorTv
import Derived.Test.YthmhaflkkigenaaGreatDoorTu
import Derived.Test.YthmhaflkkigenaaGreatDoorTf
import Derived.Deep.RegionHeld3
/- Plain: the program reads a table just where the reference does. -/
namespace Go.Proofs.YthmhaflkkigenaaGreatDoor
open Go.RowKit
set_option linter.unusedVariables false

theorem cutn_ne : ∀ (l acc : List UInt8), cutn acc l ≠ []
  | [], acc => by simp [cutn]
  | b :: l, acc => by
    unfold cutn
    split
    · simp
    · exact cutn_ne l _
/-- Ends of lines stand nowhere inside. -/
theorem cutn_no : ∀ (l acc : List UInt8), 10 ∉ acc → ∀ p ∈ cutn acc l, (10 : UInt8) ∉ p
  | [], acc, h, p, hp => by
    rw [cutn, List.mem_singleton] at hp
    rw [hp]; exact h
  | b :: l, acc, h, p, hp => by
    unfold cutn at hp
    split at hp
    · rcases List.mem_cons.1 hp with rfl | hp
      · exact h
      · exact cutn_no l [] (by simp) p hp
    · rename_i hb
      exact cutn_no l _ (by simp [h]; exact fun e => hb e.symm) p hp
theorem cutn_piece : ∀ (x acc l : List UInt8), 10 ∉ x → cutn acc (x ++ 10 :: l) = (acc ++ x) :: cutn [] l
  | [], acc, l, _ => by simp [cutn]
  | b :: x, acc, l, h => by
    have hb : b ≠ 10 := fun e => h (by rw [e]; exact List.mem_cons_self)
    rw [List.cons_append, cutn, if_neg hb, cutn_piece x _ l (fun e => h (List.mem_cons_of_mem _ e))]
    simp
theorem cutn_all : ∀ (xs : List (List UInt8)), (∀ x ∈ xs, (10 : UInt8) ∉ x) → cutn [] (xs.flatMap (· ++ [10])) = xs ++ [[]]
  | [], _ => rfl
  | x :: l, h => by
    rw [List.flatMap_cons, List.append_assoc, List.singleton_append, cutn_piece _ _ _ (h x List.mem_cons_self), cutn_all l (fun y hy => h y (List.mem_cons_of_mem _ hy))]
    rfl
theorem cutn_join : ∀ (l acc : List UInt8), (cutn acc l).dropLast.flatMap (· ++ [10]) ++ (cutn acc l).getLast (cutn_ne l acc) = acc ++ l
  | [], acc => by simp [cutn]
  | b :: l, acc => by
    by_cases hb : b = 10
    · have e : cutn acc (b :: l) = acc :: cutn [] l := by rw [cutn, if_pos hb]
      have k := cutn_join l []
      simp only [e]
      rw [List.dropLast_cons_of_ne_nil (cutn_ne l []), List.getLast_cons (cutn_ne l []), List.flatMap_cons, List.append_assoc, k, hb]
      simp
    · have e : cutn acc (b :: l) = cutn (acc ++ [b]) l := by rw [cutn, if_neg hb]
      have k := cutn_join l (acc ++ [b])
      simp only [e]
      rw [k]
      simp
theorem lnA_cutn : ∀ (l acc : List UInt8), lnA acc l = (cutn acc l).dropLast.map (· ++ [10]) ++ (if (cutn acc l).getLast (cutn_ne l acc) = [] then [] else [(cutn acc l).getLast (cutn_ne l acc)])
  | [], acc => by
    simp only [cutn, lnA]
    simp
    cases acc <;> simp
  | b :: l, acc => by
    by_cases hb : b = 10
    · have e : cutn acc (b :: l) = acc :: cutn [] l := by rw [cutn, if_pos hb]
      have k := lnA_cutn l []
      simp only [e]
      rw [List.dropLast_cons_of_ne_nil (cutn_ne l []), List.getLast_cons (cutn_ne l []), lnA, if_pos hb, k, hb]
      rfl
    · have e : cutn acc (b :: l) = cutn (acc ++ [b]) l := by rw [cutn, if_neg hb]
      have k := lnA_cutn l (acc ++ [b])
      simp only [e]
      rw [lnA, if_neg hb, k]
theorem cutw_no : ∀ (l acc : List UInt8), 32 ∉ acc → ∀ p ∈ cutw acc l, (32 : UInt8) ∉ p
  | [], acc, h, p, hp => by
    rw [cutw, List.mem_singleton] at hp
    rw [hp]; exact h
  | b :: l, acc, h, p, hp => by
    unfold cutw at hp
    split at hp
    · rcases List.mem_cons.1 hp with rfl | hp
      · exact h
      · exact cutw_no l [] (by simp) p hp
    · rename_i hb
      exact cutw_no l _ (by simp [h]; exact fun e => hb e.symm) p hp
theorem cutw_ne : ∀ (l acc : List UInt8), cutw acc l ≠ []
  | [], acc => by simp [cutw]
  | b :: l, acc => by
    unfold cutw
    split
    · simp
    · exact cutw_ne l _
theorem cutw_piece : ∀ (x acc l : List UInt8), 32 ∉ x → cutw acc (x ++ 32 :: l) = (acc ++ x) :: cutw [] l
  | [], acc, l, _ => by simp [cutw]
  | b :: x, acc, l, h => by
    have hb : b ≠ 32 := fun e => h (by rw [e]; exact List.mem_cons_self)
    rw [List.cons_append, cutw, if_neg hb, cutw_piece x _ l (fun e => h (List.mem_cons_of_mem _ e))]
    simp
theorem cutw_last : ∀ (x acc : List UInt8), 32 ∉ x → cutw acc x = [acc ++ x]
  | [], acc, _ => by simp [cutw]
  | b :: x, acc, h => by
    have hb : b ≠ 32 := fun e => h (by rw [e]; exact List.mem_cons_self)
    rw [cutw, if_neg hb, cutw_last x _ (fun e => h (List.mem_cons_of_mem _ e))]
    simp
theorem joinT_cons (y : List UInt8) (r : List (List UInt8)) : Lib.joinTail [32] (y :: r) = 32 :: (y ++ Lib.joinTail [32] r) := by
  unfold Lib.joinTail
  rw [List.map_cons, List.flatten_cons]
  simp
theorem cutw_all : ∀ (r : List (List UInt8)) (x : List UInt8), 32 ∉ x → (∀ y ∈ r, (32 : UInt8) ∉ y) → cutw [] (x ++ Lib.joinTail [32] r) = x :: r
  | [], x, h, _ => by
    have e : Lib.joinTail [32] [] = [] := rfl
    rw [e, List.append_nil, cutw_last _ _ h]
    rfl
  | y :: r, x, h, hr => by
    rw [joinT_cons, cutw_piece _ _ _ h, cutw_all r y (hr y List.mem_cons_self) (fun z hz => hr z (List.mem_cons_of_mem _ hz))]
    rfl
theorem cutw_join : ∀ (l acc : List UInt8), Lib.join (cutw acc l) [32] = acc ++ l
  | [], acc => by rw [cutw, Lib.join_one, List.append_nil]
  | b :: l, acc => by
    by_cases hb : b = 32
    · rw [cutw, if_pos hb, Lib.join_cons]
      have k := cutw_join l []
      have hn := cutw_ne l []
      cases e : cutw [] l with
      | nil => exact absurd e hn
      | cons y r =>
        rw [e, Lib.join_cons, List.nil_append] at k
        rw [joinT_cons, k, hb]
    · rw [cutw, if_neg hb, cutw_join l]
      simp
end Go.Proofs.YthmhaflkkigenaaGreatDoor

/- Plain: the program reads a table just where the reference does. -/
namespace Go.Proofs.YthmhaflkkigenaaGreatDoor
open Go.RowKit
set_option linter.unusedVariables false

def refForm (ws : List ByteArray) : Bool := decide (8 ≤ ws.length) && ((match ws with | [] => false | x :: _ => x.toList == slotL) && ((ws.drop 2).take 6).all numOk)
def refGood (s : ByteArray) : Bool := lineO s && (lineW s).all fun l => refForm (piecew l)
def refTab (s : ByteArray) : List SlotP := (lineW s).map fun l => slotP (piecew l)
theorem slot_eq (x : ByteArray) : (x.toList == slotL) = decide ((⟨#[115, 108, 111, 116]⟩ : ByteArray) = x) := by
  have e : slotL = (⟨#[115, 108, 111, 116]⟩ : ByteArray).toList := by rw [ByteArray.toList_eq]; rfl
  rw [e, td_beq]
  exact decide_eq_decide.2 ⟨fun h => h.symm, fun h => h.symm⟩
theorem eight {ws : List ByteArray} (h : 8 ≤ ws.length) : ∃ w0 w1 w2 w3 w4 w5 w6 w7 r, ws = w0 :: w1 :: w2 :: w3 :: w4 :: w5 :: w6 :: w7 :: r := by
  match ws, h with
  | w0 :: w1 :: w2 :: w3 :: w4 :: w5 :: w6 :: w7 :: r, _ => exact ⟨w0, w1, w2, w3, w4, w5, w6, w7, r, rfl⟩
theorem form_ref (ws : List ByteArray) : refForm ws = true ↔ formB ws = true ∧ wordsP (slotP ws) = ws := by
  by_cases h8 : 8 ≤ ws.length
  · obtain ⟨w0, w1, w2, w3, w4, w5, w6, w7, r, rfl⟩ := eight h8
    have e1 : refForm (w0 :: w1 :: w2 :: w3 :: w4 :: w5 :: w6 :: w7 :: r) = ((w0.toList == slotL) && (numOk w2 && (numOk w3 && (numOk w4 && (numOk w5 && (numOk w6 && (numOk w7 && true))))))) := by
      unfold refForm
      rw [decide_eq_true h8, Bool.true_and]
      rfl
    have e2 : formB (w0 :: w1 :: w2 :: w3 :: w4 :: w5 :: w6 :: w7 :: r) = ((w0.toList == slotL) && true && (numB 10 18 w2 && (numB 10 18 w3 && (numB 10 18 w4 && (numB 10 18 w5 && (numB 10 18 w6 && (numB 10 18 w7 && true))))))) := by
      unfold formB
      rw [decide_eq_true h8]
      rfl
    have e3 : wordsP (slotP (w0 :: w1 :: w2 :: w3 :: w4 :: w5 :: w6 :: w7 :: r)) = ⟨#[115, 108, 111, 116]⟩ :: w1 :: itoaS (numI 10 18 w2) :: itoaS (numI 10 18 w3) :: itoaS (numI 10 18 w4) :: itoaS (numI 10 18 w5) :: itoaS (numI 10 18 w6) :: itoaS (numI 10 18 w7) :: r := rfl
    rw [e1, e2, e3]
    unfold numOk
    simp only [td_beq, slot_eq, Bool.and_eq_true, decide_eq_true_eq, Bool.and_true, List.cons.injEq, and_true, true_and]
    constructor
    · rintro ⟨a, ⟨b2, c2⟩, ⟨b3, c3⟩, ⟨b4, c4⟩, ⟨b5, c5⟩, ⟨b6, c6⟩, b7, c7⟩
      exact ⟨⟨a, b2, b3, b4, b5, b6, b7⟩, a, c2, c3, c4, c5, c6, c7⟩
    · rintro ⟨⟨a, b2, b3, b4, b5, b6, b7⟩, _, c2, c3, c4, c5, c6, c7⟩
      exact ⟨a, ⟨b2, c2⟩, ⟨b3, c3⟩, ⟨b4, c4⟩, ⟨b5, c5⟩, ⟨b6, c6⟩, b7, c7⟩
  · unfold refForm formB
    rw [decide_eq_false h8]
    simp
theorem line_words (x : ByteArray) : Lib.join ((piecew x).map (·.data.toList)) [32] = x.data.toList := by rw [piecew_cuts, cutw_join, List.nil_append]
theorem cutw_sub : ∀ (l acc : List UInt8), ∀ p ∈ cutw acc l, ∀ b ∈ p, b ∈ acc ++ l
  | [], acc, p, hp, b, hb => by
    rw [cutw, List.mem_singleton] at hp
    rw [hp] at hb
    simpa using hb
  | c :: l, acc, p, hp, b, hb => by
    unfold cutw at hp
    split at hp
    · rcases List.mem_cons.1 hp with rfl | hp
      · exact List.mem_append_left _ hb
      · have k := cutw_sub l [] p hp b hb
        exact List.mem_append_right _ (List.mem_cons_of_mem _ (by simpa using k))
    · have k := cutw_sub l _ p hp b hb
      simpa using k
theorem piece_sub {x p : ByteArray} (h : p ∈ piecew x) : (∀ b ∈ p.data.toList, b ∈ x.data.toList) ∧ (32 : UInt8) ∉ p.data.toList := by
  have k : p.data.toList ∈ cutw [] x.data.toList := by
    rw [← piecew_cuts]
    exact List.mem_map.2 ⟨p, h, rfl⟩
  exact ⟨fun b hb => by simpa using cutw_sub _ [] _ k b hb, cutw_no _ [] (by simp) _ k⟩
theorem dec_dig (u : Nat) : ∀ b ∈ Lib.decDigits u, 48 ≤ b.toNat := by
  have one : ∀ d : Nat, d < 10 → 48 ≤ (UInt8.ofNat (48 + d)).toNat := fun d hd => by rw [UInt8.toNat_ofNat']; omega
  induction u using Nat.strongRecOn with
  | ind u ih =>
    by_cases h : u < 10
    · rw [rx_dec_small h]
      intro b hb
      rw [List.mem_singleton] at hb
      rw [hb]; exact one u h
    · rw [rx_dec_big h]
      intro b hb
      rcases List.mem_append.1 hb with hb | hb
      · exact ih (u / 10) (by omega) b hb
      · rw [List.mem_singleton] at hb
        rw [hb]; exact one _ (by omega)
theorem itoa_no (n : Int) (h : 0 ≤ n) : (10 : UInt8) ∉ (itoaS n).data.toList ∧ (32 : UInt8) ∉ (itoaS n).data.toList := by
  have e : (itoaS n).data.toList = Lib.decDigits n.toNat := by
    unfold itoaS Lib.itoa
    rw [if_neg (by omega)]
  rw [e]
  exact ⟨fun hb => absurd (dec_dig _ _ hb) (by decide), fun hb => absurd (dec_dig _ _ hb) (by decide)⟩
/-- The words that are told of a slot that was read: no end of line, no blank. -/
theorem words_no {x : ByteArray} (hx : (10 : UInt8) ∉ x.data.toList) : ∀ p ∈ wordsP (slotP (piecew x)), (10 : UInt8) ∉ p.data.toList ∧ (32 : UInt8) ∉ p.data.toList := by
  intro p hp
  have pc : ∀ q ∈ piecew x, (10 : UInt8) ∉ q.data.toList ∧ (32 : UInt8) ∉ q.data.toList := fun q hq => ⟨fun hb => hx ((piece_sub hq).1 _ hb), (piece_sub hq).2⟩
  unfold wordsP at hp
  rcases List.mem_append.1 hp with hp | hp
  · rcases List.mem_append.1 hp with hp | hp
    · rcases List.mem_cons.1 hp with rfl | hp
      · exact ⟨by decide, by decide⟩
      · rw [List.mem_singleton] at hp
        rw [hp]
        show (10 : UInt8) ∉ ((piecew x).getD 1 ⟨#[]⟩).data.toList ∧ _
        by_cases h1 : 1 < (piecew x).length
        · have e : (slotP (piecew x)).n = (piecew x)[1] := by
            show (piecew x).getD 1 ⟨#[]⟩ = _
            rw [List.getD_eq_getElem?_getD, List.getElem?_eq_getElem h1]; rfl
          have e2 : (piecew x).getD 1 ⟨#[]⟩ = (piecew x)[1] := e
          rw [e2, e]
          exact pc _ (List.getElem_mem h1)
        · have e2 : (piecew x).getD 1 ⟨#[]⟩ = ⟨#[]⟩ := by
            rw [List.getD_eq_getElem?_getD, List.getElem?_eq_none (by omega)]; rfl
          have e : (slotP (piecew x)).n = ⟨#[]⟩ := e2
          rw [e2, e]
          exact ⟨by decide, by decide⟩
    · obtain ⟨n, hn, rfl⟩ := List.mem_map.1 hp
      exact itoa_no n (nums_bd _ n hn).1
  · exact pc p (List.mem_of_mem_drop hp)
theorem join_no {ws : List (List UInt8)} {c : UInt8} (hc : c ≠ 32) (h : ∀ w ∈ ws, c ∉ w) : c ∉ Lib.join ws [32] := by
  have tail : ∀ r : List (List UInt8), (∀ w ∈ r, c ∉ w) → c ∉ Lib.joinTail [32] r := by
    intro r
    induction r with
    | nil => intro _ hb; cases hb
    | cons y r ih =>
      intro hr hb
      rw [joinT_cons] at hb
      rcases List.mem_cons.1 hb with hb | hb
      · exact hc hb
      · rcases List.mem_append.1 hb with hb | hb
        · exact hr y List.mem_cons_self hb
        · exact ih (fun z hz => hr z (List.mem_cons_of_mem _ hz)) hb
  cases ws with
  | nil => intro hb; cases hb
  | cons x r =>
    rw [Lib.join_cons]
    intro hb
    rcases List.mem_append.1 hb with hb | hb
    · exact h x List.mem_cons_self hb
    · exact tail r (fun z hz => h z (List.mem_cons_of_mem _ hz)) hb
/-- Told as it was: the words are the same. -/
theorem words_back {x : ByteArray} (hx : (10 : UInt8) ∉ x.data.toList) (h : Lib.join ((wordsP (slotP (piecew x))).map (·.data.toList)) [32] = x.data.toList) : wordsP (slotP (piecew x)) = piecew x := by
  have no := words_no hx
  have hne : wordsP (slotP (piecew x)) ≠ [] := by unfold wordsP; simp
  apply map_data_injW
  rw [piecew_cuts, ← h]
  generalize wordsP (slotP (piecew x)) = W at *
  cases W with
  | nil => exact absurd rfl hne
  | cons y r =>
    rw [List.map_cons, Lib.join_cons]
    exact (cutw_all _ _ (no y List.mem_cons_self).2 (fun z hz => by
      obtain ⟨q, hq, rfl⟩ := List.mem_map.1 hz
      exact (no q (List.mem_cons_of_mem _ hq)).2)).symm
theorem lineP_eq (s : SlotP) : lineP s = Lib.join ((wordsP s).map (·.data.toList)) [32] ++ [10] := rfl
theorem trim_end (l : List UInt8) : trimX (txt (l ++ [10])) = txt l := by
  unfold trimX txt
  have h : Lib.trimSuffix (l ++ [10]) [10] = l := by
    unfold Lib.trimSuffix
    rw [if_pos (by unfold Lib.hasSuffix; simp)]
    simp
  show (⟨(Lib.trimSuffix (l ++ [10]) [10]).toArray⟩ : ByteArray) = _
  rw [h]
theorem trim_no {l : List UInt8} (h0 : (10 : UInt8) ∉ l) : trimX (txt l) = txt l := by
  unfold trimX txt
  have h : Lib.trimSuffix l [10] = l := by
    unfold Lib.trimSuffix
    split
    · rename_i q
      exfalso
      unfold Lib.hasSuffix at q
      exact h0 ((List.isSuffixOf_iff_suffix.1 q).subset List.mem_cons_self)
    · rfl
  show (⟨(Lib.trimSuffix l [10]).toArray⟩ : ByteArray) = _
  rw [h]
/-- Every row, trimmed, bears no end of line. -/
theorem rows_no (s : ByteArray) : ∀ x ∈ rowsX s, (10 : UInt8) ∉ (trimX x).data.toList := by
  intro x hx
  unfold rowsX linesL at hx
  obtain ⟨l, hl, rfl⟩ := List.mem_map.1 hx
  rw [lnA_cutn] at hl
  have no := cutn_no s.data.toList [] (by simp)
  rcases List.mem_append.1 hl with hl | hl
  · obtain ⟨p, hp, rfl⟩ := List.mem_map.1 hl
    rw [trim_end]
    exact no p ((List.dropLast_sublist _).subset hp)
  · split at hl
    · cases hl
    · rw [List.mem_singleton] at hl
      have k := no _ (List.getLast_mem (cutn_ne s.data.toList []))
      rw [← hl] at k
      rw [trim_no k]
      exact k
theorem lineO_iff (s : ByteArray) : lineO s = true ↔ (cutn [] s.data.toList).getLast (cutn_ne _ _) = [] := by
  unfold lineO
  rw [List.getLast?_eq_some_getLast (cutn_ne _ _), beq_iff_eq]
  exact ⟨fun h => Option.some.inj h, fun h => by rw [h]⟩
theorem rows_ok {s : ByteArray} (h : lineO s = true) : rowsX s = (lineW s).map fun l => txt (l.data.toList ++ [10]) := by
  unfold rowsX linesL lineW
  rw [lnA_cutn, if_pos ((lineO_iff s).1 h), List.append_nil, List.map_map, List.map_map]
  rfl
theorem line_no {s : ByteArray} : ∀ l ∈ lineW s, (10 : UInt8) ∉ l.data.toList := by
  intro l hl
  unfold lineW at hl
  obtain ⟨p, hp, rfl⟩ := List.mem_map.1 hl
  exact cutn_no s.data.toList [] (by simp) p ((List.dropLast_sublist _).subset hp)
theorem txt_data (x : ByteArray) : txt x.data.toList = x := rfl
theorem slot_ok_row (l : ByteArray) : slotX (txt (l.data.toList ++ [10])) = slotP (piecew l) ∧ formX (txt (l.data.toList ++ [10])) = formB (piecew l) := by
  unfold slotX formX wordsX
  rw [trim_end, txt_data]
  exact ⟨rfl, rfl⟩
theorem tab_ok {s : ByteArray} (h : lineO s = true) : tabX s = refTab s := by
  unfold tabX refTab
  rw [rows_ok h, List.map_map]
  exact List.map_congr_left fun l _ => (slot_ok_row l).1
theorem lines_join {s : ByteArray} (h : lineO s = true) : (lineW s).flatMap (fun l => l.data.toList ++ [10]) = s.data.toList := by
  have k := cutn_join s.data.toList []
  rw [(lineO_iff s).1 h, List.append_nil, List.nil_append] at k
  unfold lineW
  rw [List.flatMap_map]
  exact k
theorem tell_map (xs : List SlotP) : tellP xs = (xs.map fun s => Lib.join ((wordsP s).map (·.data.toList)) [32]).flatMap (· ++ [10]) := by
  unfold tellP
  rw [List.flatMap_map]
  rfl
theorem good_ref (s : ByteArray) : goodX s = refGood s := by
  rw [Bool.eq_iff_iff]
  unfold goodX refGood
  rw [Bool.and_eq_true, Bool.and_eq_true, List.all_eq_true, List.all_eq_true, beq_iff_eq, ByteArray.toList_eq]
  constructor
  · rintro ⟨h1, h2⟩
    have no : ∀ m ∈ (tabX s).map (fun s => Lib.join ((wordsP s).map (·.data.toList)) [32]), (10 : UInt8) ∉ m := by
      intro m hm
      obtain ⟨t, ht, rfl⟩ := List.mem_map.1 hm
      unfold tabX at ht
      obtain ⟨x, hx, rfl⟩ := List.mem_map.1 ht
      refine join_no (by decide) (fun w hw => ?_)
      obtain ⟨p, hp, rfl⟩ := List.mem_map.1 hw
      exact (words_no (rows_no s x hx) p hp).1
    have c := cutn_all _ no
    rw [← tell_map, h2] at c
    have hO : lineO s = true := by
      rw [lineO_iff]
      simp only [c, List.getLast_concat]
    refine ⟨hO, fun l hl => (form_ref _).2 ⟨?_, ?_⟩⟩
    · have k := h1 (txt (l.data.toList ++ [10])) (by rw [rows_ok hO]; exact List.mem_map.2 ⟨l, hl, rfl⟩)
      rw [(slot_ok_row l).2] at k
      exact k
    · refine words_back (line_no l hl) ?_
      have e : (lineW s).map (fun l => l.data.toList) = (tabX s).map (fun s => Lib.join ((wordsP s).map (·.data.toList)) [32]) := by
        have z : (lineW s).map (fun l => l.data.toList) = (cutn [] s.data.toList).dropLast := by
          unfold lineW
          rw [List.map_map]
          exact List.map_id _
        rw [z, c, List.dropLast_concat]
      rw [tab_ok hO] at e
      unfold refTab at e
      rw [List.map_map] at e
      exact ((List.map_inj_left.1 e) l hl).symm
  · rintro ⟨hO, h⟩
    refine ⟨fun x hx => ?_, ?_⟩
    · rw [rows_ok hO] at hx
      obtain ⟨l, hl, rfl⟩ := List.mem_map.1 hx
      rw [(slot_ok_row l).2]
      exact ((form_ref _).1 (h l hl)).1
    · rw [tab_ok hO, tell_map, ← lines_join hO]
      unfold refTab
      rw [List.map_map, List.flatMap_map]
      have e : ∀ l ∈ lineW s, Lib.join ((wordsP (slotP (piecew l))).map (·.data.toList)) [32] ++ [10] = l.data.toList ++ [10] := fun l hl => by
        rw [((form_ref _).1 (h l hl)).2, line_words]
      rw [List.flatMap_def, List.flatMap_def]
      exact congrArg List.flatten (List.map_congr_left e)
end Go.Proofs.YthmhaflkkigenaaGreatDoor

/- The reference's Read: what its answers are (plain), and a round's end. -/
namespace Go.Proofs.YthmhaflkkigenaaGreatDoor
open Go.ChangeShapes Go.WideShapes Go.ChangeAt Go.RowKit
set_option linter.unusedVariables false

def codeR (s : ByteArray) : Int := if 4096 < s.size then 2 else if refGood s = false then 20 else if rightP (refTab s) = false then 60 else 0
def RefR (w : World) (s : ByteArray) (e : Ending) (w' : World) : Prop := ∃ a n c, e = .returned (.tuple #[.slice a n c, .int .i64 (codeR s)]) ∧ Below w.heap.size w w' ∧ (codeR s = 0 → Sls w'.heap.size w' (.slice a n c) (refTab s)) ∧ (codeR s ≠ 0 → a = none ∧ n = 0 ∧ c = 0)
theorem code_long {s : ByteArray} (h : 4096 < s.size) : codeR s = 2 := by unfold codeR; rw [if_pos h]
theorem code_form {s : ByteArray} (h : ¬ 4096 < s.size) (g : refGood s = false) : codeR s = 20 := by unfold codeR; rw [if_neg h, if_pos g]
theorem code_tab {s : ByteArray} (h : ¬ 4096 < s.size) (g : refGood s = true) (r : rightP (refTab s) = false) : codeR s = 60 := by unfold codeR; rw [if_neg h, if_neg (by rw [g]; decide), if_pos r]
theorem code_ok {s : ByteArray} (h : ¬ 4096 < s.size) (g : refGood s = true) (r : rightP (refTab s) = true) : codeR s = 0 := by unfold codeR; rw [if_neg h, if_neg (by rw [g]; decide), if_neg (by rw [r]; decide)]
theorem refR_no {w w' : World} {s : ByteArray} {k : Int} (h : codeR s = k) (hk : k ≠ 0) (B : Below w.heap.size w w') : RefR w s (.returned (.tuple #[.slice none 0 0, .int .i64 k])) w' :=
  ⟨none, 0, 0, by rw [h], B, (fun e => absurd (h.symm.trans e) hk), fun _ => ⟨rfl, rfl, rfl⟩⟩
theorem good_noline {s : ByteArray} (h : lineO s = false) : refGood s = false := by unfold refGood; rw [h]; rfl
theorem good_noform {s : ByteArray} (i : Nat) (hi : i < (lineW s).length) (h : refForm (piecew (lineW s)[i]) = false) : refGood s = false := by
  unfold refGood
  rw [Bool.and_eq_false_iff]
  right
  rw [List.all_eq_false]
  exact ⟨_, List.getElem_mem hi, by rw [h]; decide⟩
theorem good_all {s : ByteArray} (h : lineO s = true) (g : (lineW s).all (fun l => refForm (piecew l)) = true) : refGood s = true := by unfold refGood; rw [h, g]; rfl
theorem lineW_bd (s : ByteArray) : (lineW s).length ≤ s.size ∧ ∀ l ∈ lineW s, l.size ≤ s.size := by
  have key : ∀ (l acc : List UInt8), (cutn acc l).length ≤ l.length + 1 ∧ ∀ p ∈ cutn acc l, p.length ≤ acc.length + l.length := by
    intro l
    induction l with
    | nil => intro acc; rw [cutn]; exact ⟨by simp, fun p hp => by rw [List.mem_singleton] at hp; rw [hp]; simp⟩
    | cons b l ih =>
      intro acc
      unfold cutn
      split
      · refine ⟨by have := (ih []).1; simp only [List.length_cons]; omega, fun p hp => ?_⟩
        rcases List.mem_cons.1 hp with rfl | hp
        · simp only [List.length_cons]; omega
        · have := (ih []).2 p hp
          simp only [List.length_cons, List.length_nil] at this ⊢; omega
      · have k := ih (acc ++ [b])
        refine ⟨by simp only [List.length_cons]; omega, fun p hp => ?_⟩
        have := k.2 p hp
        simp only [List.length_append, List.length_cons, List.length_nil] at this ⊢; omega
  have k := key s.data.toList []
  unfold lineW
  refine ⟨?_, fun l hl => ?_⟩
  · rw [List.length_map, List.length_dropLast]
    have e : s.data.toList.length = s.size := rfl
    omega
  · obtain ⟨p, hp, rfl⟩ := List.mem_map.1 hl
    have := k.2 p ((List.dropLast_sublist _).subset hp)
    have e : s.data.toList.length = s.size := rfl
    have e2 : (⟨p.toArray⟩ : ByteArray).size = p.length := rfl
    simp only [List.length_nil] at this
    omega
def RI (w1 : World) (ls : List ByteArray) (i : Nat) (W : World) (v : Value) (xs : List SlotX) : Prop := OwnS w1.heap.size W v xs ∧ xs.map (·.s) = (ls.take i).map (fun l => slotP (piecew l)) ∧ (ls.take i).all (fun l => refForm (piecew l)) = true ∧ (∀ x ∈ xs, ∀ q, x.a = some q → q.block < W.heap.size) ∧ Below w1.heap.size w1 W
theorem ri_zero (w1 : World) (ls : List ByteArray) : RI w1 ls 0 (w1.alloc (.cells #[] 35)) (.slice (some ⟨w1.heap.size, 0, none⟩) 0 0) [] :=
  ⟨⟨⟨rfl, .inr ⟨w1.heap.size, 0, #[], rfl, Nat.le_refl _, new_at _ _, Nat.le_refl _, by decide, rfl, rfl⟩⟩, (fun x hx => by cases hx), fun x hx => by cases hx⟩, rfl, rfl, (fun x hx => by cases hx), (Below.refl _ _).alloc (Nat.le_refl _) _⟩
theorem form_head {ws : List ByteArray} (h8 : 8 ≤ ws.length) : refForm ws = ((ws[0].toList == slotL) && ((ws.drop 2).take 6).all numOk) := by
  cases ws with
  | nil => exact absurd h8 (by decide)
  | cons x l =>
    unfold refForm
    rw [decide_eq_true h8, Bool.true_and]
    rfl
theorem cells8 {V : World} {g : Nat} {ws : List ByteArray} (h8 : 8 ≤ ws.length) (h : ∀ (j : Nat) (hj : j < ws.length), V.cell? ⟨g, j, none⟩ = some (.string ws[j])) :
    ∃ p0 p1 p2 p3 p4 p5 p6 p7 r, ws = p0 :: p1 :: p2 :: p3 :: p4 :: p5 :: p6 :: p7 :: r ∧ V.cell? ⟨g, 0, none⟩ = some (.string p0) ∧ V.cell? ⟨g, 1, none⟩ = some (.string p1) ∧ V.cell? ⟨g, 2, none⟩ = some (.string p2) ∧ V.cell? ⟨g, 3, none⟩ = some (.string p3) ∧ V.cell? ⟨g, 4, none⟩ = some (.string p4) ∧ V.cell? ⟨g, 5, none⟩ = some (.string p5) ∧ V.cell? ⟨g, 6, none⟩ = some (.string p6) ∧ V.cell? ⟨g, 7, none⟩ = some (.string p7) := by
  obtain ⟨p0, p1, p2, p3, p4, p5, p6, p7, r, rfl⟩ := eight h8
  exact ⟨p0, p1, p2, p3, p4, p5, p6, p7, r, rfl, h 0 (by omega), h 1 (by omega), h 2 (by omega), h 3 (by omega), h 4 (by omega), h 5 (by omega), h 6 (by omega), h 7 (by omega)⟩
theorem form8 (p0 p1 p2 p3 p4 p5 p6 p7 : ByteArray) (r : List ByteArray) : refForm (p0 :: p1 :: p2 :: p3 :: p4 :: p5 :: p6 :: p7 :: r) = ((p0.toList == slotL) && (numOk p2 && (numOk p3 && (numOk p4 && (numOk p5 && (numOk p6 && (numOk p7 && true))))))) := by
  unfold refForm
  rw [decide_eq_true (by simp), Bool.true_and]
  rfl
theorem slotP_words {ws : List ByteArray} {p0 p1 p2 p3 p4 p5 p6 p7 : ByteArray} {r : List ByteArray} (h : ws = p0 :: p1 :: p2 :: p3 :: p4 :: p5 :: p6 :: p7 :: r) :
    slotP ws = ⟨p1, ws.drop 8, numI 10 18 p2, numI 10 18 p3, numI 10 18 p4, numI 10 18 p5, numI 10 18 p6, numI 10 18 p7⟩ := by subst h; rfl
theorem txs_drop8 {B : Nat} {w : World} {g c : Nat} {ws : List ByteArray} (h : Txs B w (.slice (some ⟨g, 0, none⟩) ws.length c) ws) (h8 : 8 ≤ ws.length) : Txs B w (.slice (if c = 8 then some ⟨g, 0, none⟩ else some ⟨g, 8, none⟩) (ws.length - 8) (c - 8)) (ws.drop 8) := by
  obtain ⟨a', c', e, h1, h2, h3, h4⟩ := h
  obtain ⟨rfl, e2, rfl⟩ := slice_inj e
  refine ⟨_, c - 8, by rw [List.length_drop], (fun e => by split at e <;> cases e), by rw [List.length_drop]; omega, by omega, fun hp => ?_⟩
  rw [List.length_drop] at hp
  obtain ⟨g', o', e', hg, hc⟩ := h4 (by omega)
  have hgo := Option.some.inj e'
  obtain rfl : g = g' := congrArg Addr.block hgo
  obtain rfl : 0 = o' := congrArg Addr.off hgo
  refine ⟨g, 8, by rw [if_neg (by omega)], hg, fun j hj => ?_⟩
  rw [List.length_drop] at hj
  rw [List.getElem_drop]
  have := hc (8 + j) (by omega)
  rw [Nat.zero_add] at this
  exact this
/-- Six stores into a slot's block. -/
theorem set6_blk {w : World} {b : Nat} {y0 y1 z2 z3 z4 z5 z6 z7 : Value} {t : TypeId} (h : w.heap[b]? = some (.cells #[y0, y1, z2, z3, z4, z5, z6, z7] t)) (q2 q3 q4 q5 q6 q7 : Value) :
    ((((((w.setCell ⟨b, 2, none⟩ q2).setCell ⟨b, 3, none⟩ q3).setCell ⟨b, 4, none⟩ q4).setCell ⟨b, 5, none⟩ q5).setCell ⟨b, 6, none⟩ q6).setCell ⟨b, 7, none⟩ q7).heap[b]? = some (.cells #[y0, y1, q2, q3, q4, q5, q6, q7] t) := by
  rw [ring_set (ring_set (ring_set (ring_set (ring_set (ring_set h)))))]; rfl
theorem set6_below {B b : Nat} (w : World) (hb : B ≤ b) (q2 q3 q4 q5 q6 q7 : Value) :
    Below B w ((((((w.setCell ⟨b, 2, none⟩ q2).setCell ⟨b, 3, none⟩ q3).setCell ⟨b, 4, none⟩ q4).setCell ⟨b, 5, none⟩ q5).setCell ⟨b, 6, none⟩ q6).setCell ⟨b, 7, none⟩ q7) :=
  ((((((Below.refl B w).setCell (p := ⟨b, 2, none⟩) hb q2).setCell (p := ⟨b, 3, none⟩) hb q3).setCell (p := ⟨b, 4, none⟩) hb q4).setCell (p := ⟨b, 5, none⟩) hb q5).setCell (p := ⟨b, 6, none⟩) hb q6).setCell (p := ⟨b, 7, none⟩) hb q7
/-- The slot of a line goes behind the row. -/
theorem ri_step {w1 wr W1 V6 : World} {ls : List ByteArray} {i gw cw : Nat} {v : Value} {xs : List SlotX} {p0 p1 p2 p3 p4 p5 p6 p7 : ByteArray} {r ws : List ByteArray}
    (hI : RI w1 ls i wr v xs) (hxl : xs.length = i) (hi : i ≤ 1048576) (BW : Below wr.heap.size wr W1) (hgw : wr.heap.size ≤ gw) (hgl : gw < W1.heap.size) (hOW : Txs W1.heap.size W1 (.slice (some ⟨gw, 0, none⟩) ws.length cw) ws) (hws : ws = p0 :: p1 :: p2 :: p3 :: p4 :: p5 :: p6 :: p7 :: r)
    (D6 : Below W1.heap.size W1 V6) (N6 : V6.heap[W1.heap.size]? = some (.cells #[.string p1, .slice (if cw = 8 then some ⟨gw, 0, none⟩ else some ⟨gw, 8, none⟩) (ws.length - 8) (cw - 8), .int .i64 0, .int .i64 0, .int .i64 0, .int .i64 0, .int .i64 0, .int .i64 0] 35))
    (hl1 : (ls.take (i + 1)).all (fun l => refForm (piecew l)) = true) (hl2 : (ls.take (i + 1)).map (fun l => slotP (piecew l)) = xs.map (·.s) ++ [slotP ws]) :
    ∃ g' c' W8, (Builtin.append_ #[23, 23] 23 #[v, .slice (some ⟨V6.heap.size, 0, none⟩) 1 1]).run Tryz.prog ((((((((V6.setCell ⟨W1.heap.size, 2, none⟩ (.int .i64 (numI 10 18 p2))).setCell ⟨W1.heap.size, 3, none⟩ (.int .i64 (numI 10 18 p3))).setCell ⟨W1.heap.size, 4, none⟩ (.int .i64 (numI 10 18 p4))).setCell ⟨W1.heap.size, 5, none⟩ (.int .i64 (numI 10 18 p5))).setCell ⟨W1.heap.size, 6, none⟩ (.int .i64 (numI 10 18 p6))).setCell ⟨W1.heap.size, 7, none⟩ (.int .i64 (numI 10 18 p7)))).alloc (.cells #[.string p1, .slice (if cw = 8 then some ⟨gw, 0, none⟩ else some ⟨gw, 8, none⟩) (ws.length - 8) (cw - 8), .int .i64 (numI 10 18 p2), .int .i64 (numI 10 18 p3), .int .i64 (numI 10 18 p4), .int .i64 (numI 10 18 p5), .int .i64 (numI 10 18 p6), .int .i64 (numI 10 18 p7)] 35)) = .ok (.slice (some ⟨g', 0, none⟩) (i + 1) c') W8 ∧
      ∃ xs', xs'.length = i + 1 ∧ RI w1 ls (i + 1) W8 (.slice (some ⟨g', 0, none⟩) (i + 1) c') xs' := by
  obtain ⟨hO, hM, hA, hX, hB⟩ := hI
  have K6 := set6_below (B := W1.heap.size) V6 (Nat.le_refl W1.heap.size) (.int .i64 (numI 10 18 p2)) (.int .i64 (numI 10 18 p3)) (.int .i64 (numI 10 18 p4)) (.int .i64 (numI 10 18 p5)) (.int .i64 (numI 10 18 p6)) (.int .i64 (numI 10 18 p7))
  have hsz : ((((((V6.setCell ⟨W1.heap.size, 2, none⟩ (.int .i64 (numI 10 18 p2))).setCell ⟨W1.heap.size, 3, none⟩ (.int .i64 (numI 10 18 p3))).setCell ⟨W1.heap.size, 4, none⟩ (.int .i64 (numI 10 18 p4))).setCell ⟨W1.heap.size, 5, none⟩ (.int .i64 (numI 10 18 p5))).setCell ⟨W1.heap.size, 6, none⟩ (.int .i64 (numI 10 18 p6))).setCell ⟨W1.heap.size, 7, none⟩ (.int .i64 (numI 10 18 p7))).heap.size = V6.heap.size := by simp [World.setCell]
  generalize (((((V6.setCell ⟨W1.heap.size, 2, none⟩ (.int .i64 (numI 10 18 p2))).setCell ⟨W1.heap.size, 3, none⟩ (.int .i64 (numI 10 18 p3))).setCell ⟨W1.heap.size, 4, none⟩ (.int .i64 (numI 10 18 p4))).setCell ⟨W1.heap.size, 5, none⟩ (.int .i64 (numI 10 18 p5))).setCell ⟨W1.heap.size, 6, none⟩ (.int .i64 (numI 10 18 p6))).setCell ⟨W1.heap.size, 7, none⟩ (.int .i64 (numI 10 18 p7)) = W6 at *
  have hs := slotP_words hws
  have A7 : Below W6.heap.size W6 (W6.alloc (.cells #[.string p1, .slice (if cw = 8 then some ⟨gw, 0, none⟩ else some ⟨gw, 8, none⟩) (ws.length - 8) (cw - 8), .int .i64 (numI 10 18 p2), .int .i64 (numI 10 18 p3), .int .i64 (numI 10 18 p4), .int .i64 (numI 10 18 p5), .int .i64 (numI 10 18 p6), .int .i64 (numI 10 18 p7)] 35)) := (Below.refl _ _).alloc (Nat.le_refl _) _
  have n7 := new_at W6 (.cells #[.string p1, .slice (if cw = 8 then some ⟨gw, 0, none⟩ else some ⟨gw, 8, none⟩) (ws.length - 8) (cw - 8), .int .i64 (numI 10 18 p2), .int .i64 (numI 10 18 p3), .int .i64 (numI 10 18 p4), .int .i64 (numI 10 18 p5), .int .i64 (numI 10 18 p6), .int .i64 (numI 10 18 p7)] 35)
  have s7 : (W6.alloc (.cells #[.string p1, .slice (if cw = 8 then some ⟨gw, 0, none⟩ else some ⟨gw, 8, none⟩) (ws.length - 8) (cw - 8), .int .i64 (numI 10 18 p2), .int .i64 (numI 10 18 p3), .int .i64 (numI 10 18 p4), .int .i64 (numI 10 18 p5), .int .i64 (numI 10 18 p6), .int .i64 (numI 10 18 p7)] 35)).heap.size = W6.heap.size + 1 := by simp
  generalize (W6.alloc (.cells #[.string p1, .slice (if cw = 8 then some ⟨gw, 0, none⟩ else some ⟨gw, 8, none⟩) (ws.length - 8) (cw - 8), .int .i64 (numI 10 18 p2), .int .i64 (numI 10 18 p3), .int .i64 (numI 10 18 p4), .int .i64 (numI 10 18 p5), .int .i64 (numI 10 18 p6), .int .i64 (numI 10 18 p7)] 35)) = W7 at *
  have D7 : Below W1.heap.size W1 W7 := (D6.trans K6).trans (A7.mono (by have := D6.size; omega))
  have D7r : Below wr.heap.size wr W7 := BW.trans (D7.mono BW.size)
  have bs := BW.size
  have ds := D7.size
  have hbs := hB.size
  have O7 := hO.kept (KpC.below D7r)
  have T7 : Txs W7.heap.size W7 (.slice (if cw = 8 then some ⟨gw, 0, none⟩ else some ⟨gw, 8, none⟩) (ws.length - 8) (cw - 8)) (ws.drop 8) := txs_drop8 ((hOW.keep D7).mono ds) (by rw [hws]; simp)
  have hq : ∀ q, (if cw = 8 then some (⟨gw, 0, none⟩ : Addr) else some ⟨gw, 8, none⟩) = some q → q.block = gw := fun q e => by
    split at e <;> (obtain rfl := Option.some.inj e; rfl)
  have hhl : (slotP ws).h.length = ws.length - 8 := by rw [hs, List.length_drop]
  have own : ∀ k, v.ownBlock = some k → w1.heap.size ≤ k ∧ k < wr.heap.size := fun k e => hO.row.lt k e
  rw [← hsz]
  obtain ⟨g', c', W8, r8, O8, G8, N8⟩ := ownS_append O7 ⟨slotP ws, if cw = 8 then some ⟨gw, 0, none⟩ else some ⟨gw, 8, none⟩, cw - 8⟩ ⟨W6.heap.size, 0, none⟩
    (fun j u hu => by
      rw [addr_add, Nat.zero_add]
      refine ring_cell n7 ?_
      rw [← hu, hs]
      simp [slotV, List.length_drop])
    (by show Txs _ _ (.slice _ (slotP ws).h.length _) (slotP ws).h; rw [hhl]; rw [hs]; exact T7)
    (fun q e => by have := hq q e; exact ⟨by omega, fun c => by have := (own _ c).2; omega, by omega⟩)
    (fun y hy q e => by have := hX y hy q e; omega) (by omega) (by omega)
  refine ⟨g', c', W8, by rw [← hxl]; exact r8, xs ++ [⟨slotP ws, if cw = 8 then some ⟨gw, 0, none⟩ else some ⟨gw, 8, none⟩, cw - 8⟩], by rw [List.length_append, hxl]; rfl, ?_, ?_, hl1, ?_, ?_⟩
  · rw [← hxl]; exact O8
  · rw [hl2, List.map_append]; rfl
  · have gs := G8.size
    intro y hy q e
    rcases List.mem_append.1 hy with hy | hy
    · have := hX y hy q e; omega
    · rw [List.mem_singleton.1 hy] at e
      have := hq q e; omega
  · exact (hB.trans (D7r.mono hB.size)).trans ((Below.refl _ _).grown G8 (by omega) (fun k e => (own k e).1))
end Go.Proofs.YthmhaflkkigenaaGreatDoor

/- The reference's Read. -/
namespace Go.Proofs.YthmhaflkkigenaaGreatDoor
open Go.ChangeShapes Go.WideShapes Go.ChangeAt Go.RowKit
set_option linter.unusedVariables false

set_option maxRecDepth 100000 in
set_option maxHeartbeats 8000000 in
theorem r9read_any (s : ByteArray) (w : World) : Calls Tryz.prog 6 #[.string s] w (RefR w s) := by
  by_cases h4 : 4096 < s.size
  · have HC : Hid (codeR s = 2) := code_long h4
    have h4' : decide ((4096 : Int) < (s.size : Int)) = true := decide_eq_true (by omega)
    clear h4
    go_enter Tryz.func6, Tryz.ntmps6
    go_wp2
    refine bodyPost_ret (v := .tuple #[.slice none 0 0, .int .i64 2]) (by simp [results, Tryz.results6, go_sem]) rfl ?_
    exact refR_no HC.out (by decide) (Below.refl _ _)
  · have h4' : decide ((4096 : Int) < (s.size : Int)) = false := decide_eq_false (by omega)
    have hs : s.size ≤ 1048576 := by omega
    have HL : Hid (Calls Tryz.prog 16 #[.string s] w fun e w' => ∃ ao cv, e = .returned (.tuple #[.slice ao (lineW s).length cv, .bool (lineO s)]) ∧ OwnT w.heap.size w' (.slice ao (lineW s).length cv) (lineW s) ∧ Below w.heap.size w w') := r9lines_any s w hs
    cases hO : lineO s
    · rw [hO] at HL
      have HC : Hid (codeR s = 20) := code_form h4 (good_noline hO)
      clear hO h4
      go_enter Tryz.func6, Tryz.ntmps6
      go_wp2_with fail
      refine HL.out.mono ?_
      rintro e w1 ⟨a1, c1, rfl, O1, B1⟩
      clear O1
      generalize (lineW s).length = n at *
      go_wp2
      refine bodyPost_ret (v := .tuple #[.slice none 0 0, .int .i64 20]) (by simp [results, Tryz.results6, go_sem]) rfl ?_
      exact refR_no HC.out (by decide) B1
    · rw [hO] at HL
      have HNF : Hid (∀ (i : Nat) (hi : i < (lineW s).length), refForm (piecew (lineW s)[i]) = false → codeR s = 20) := fun i hi h => code_form h4 (good_noform i hi h)
      have HBAD : Hid ((lineW s).all (fun l => refForm (piecew l)) = true → rightP (refTab s) = false → codeR s = 60) := fun h r => code_tab h4 (good_all hO h) r
      have HGOOD : Hid ((lineW s).all (fun l => refForm (piecew l)) = true → rightP (refTab s) = true → codeR s = 0) := fun h r => code_ok h4 (good_all hO h) r
      obtain ⟨hl1, hl2⟩ := lineW_bd s
      have HRT : Hid (refTab s = (lineW s).map (fun l => slotP (piecew l))) := rfl
      have HSZ : Hid (∀ l ∈ lineW s, l.size ≤ 4096) := fun l hl => by have := hl2 l hl; omega
      have hll : (lineW s).length ≤ 4096 := by omega
      clear hO h4 hl1 hl2
      generalize lineW s = ls at *
      go_enter Tryz.func6, Tryz.ntmps6
      go_wp2_with fail
      refine HL.out.mono ?_
      rintro e w1 ⟨a1, c1, rfl, O1, B1⟩
      have HLT : Hid (Txs w1.heap.size w1 (.slice a1 ls.length c1) ls) := O1.txs
      clear O1 HL
      go_wp2_with fail
      go_loopw [6, 7] (fun v6 v7 wr => ∃ (i : Nat) (xs : List SlotX) (ao : Option Addr) (cv : Nat), i ≤ ls.length ∧ v7 = .int .i64 i ∧ xs.length = i ∧ v6 = .slice ao i cv ∧ Hid (RI w1 ls i wr (.slice ao i cv) xs)) (fun _ v7 _ => ls.length - (intOf v7).toNat)
      case atStart => exact ⟨0, [], some ⟨w1.heap.size, 0, none⟩, 0, Nat.zero_le _, rfl, rfl, rfl, ri_zero w1 ls⟩
      case round =>
        obtain ⟨i, xs, ao, cv, hi, rfl, hxl, rfl, hI⟩ := hrel
        by_cases hlt : i < ls.length
        · have hB : Below w1.heap.size w1 wr := hI.out.2.2.2.2
          obtain ⟨a2, c2, e2, _, q2, q3, q4⟩ := HLT.out
          obtain ⟨rfl, _, rfl⟩ := slice_inj e2
          obtain ⟨g1, o1, rfl, hg1, hc1⟩ := q4 (by omega)
          have t1 := (hB.cell (p := ⟨g1, o1 + i, none⟩) hg1).trans (hc1 i hlt)
          unfold maxLen at q3
          have hsz := HSZ.out _ (List.getElem_mem hlt)
          have hnf := HNF.out i hlt
          have HW : Hid (Calls Tryz.prog 17 #[.string ls[i]] wr fun e w' => ∃ ao cv, e = .returned (.slice ao (piecew ls[i]).length cv) ∧ OwnT wr.heap.size w' (.slice ao (piecew ls[i]).length cv) (piecew ls[i]) ∧ Below wr.heap.size wr w') := r9words_any ls[i] wr (by omega)
          have HPZ : Hid (∀ p ∈ piecew ls[i], p.size ≤ 4096) := fun p hp => Nat.le_trans (piecew_size _ p hp) hsz
          have hpl : (piecew ls[i]).length ≤ 4097 := by
            have a := piecew_length ls[i]
            have b : Lib.countB ls[i] ⟨#[32]⟩ ≤ ls[i].size := Lib.countB_le ⟨#[32]⟩ (by decide) ls[i].size ls[i] (Nat.le_refl _)
            omega
          have HRF : Hid (refForm (piecew ls[i]) = true → (ls.take (i + 1)).all (fun l => refForm (piecew l)) = true) := fun h => by
            rw [List.take_succ_eq_append_getElem hlt, List.all_append, hI.out.2.2.1, List.all_cons, h]
            rfl
          have HMP : Hid ((ls.take (i + 1)).map (fun l => slotP (piecew l)) = xs.map (·.s) ++ [slotP (piecew ls[i])]) := by
            rw [Hid, List.take_succ_eq_append_getElem hlt, List.map_append, hI.out.2.1]
            rfl
          clear hc1 q4 e2 HSZ HNF HBAD HGOOD HRT HLT hsz
          generalize ls[i] = l at *
          generalize piecew l = ws at *
          have HNO : Hid (refForm ws = false → codeR s = 20) := hnf
          clear hnf
          by_cases h8 : ws.length < 8
          · have hC : Hid (codeR s = 20) := HNO.out (by unfold refForm; rw [decide_eq_false (by omega)]; rfl)
            have h8' : decide ((ws.length : Int) < 8) = true := decide_eq_true (by omega)
            clear HNO HPZ HRF HMP
            go_wp2_with fail
            refine HW.out.mono ?_
            rintro e W1 ⟨aw, cw, rfl, OW, BW⟩
            have hBB := B1.trans ((hB.trans (BW.mono hB.size)).mono B1.size)
            clear OW HW hI h8
            generalize ws.length = nw at *
            go_wp2
            refine bodyPost_ret (v := .tuple #[.slice none 0 0, .int .i64 20]) (by simp [results, Tryz.results6, go_sem]) rfl ?_
            exact refR_no hC.out (by decide) hBB
          · have h8' : decide ((ws.length : Int) < 8) = false := decide_eq_false (by omega)
            have h8n : 8 ≤ ws.length := by omega
            go_wp2_with fail
            refine HW.out.mono ?_
            rintro e W1 ⟨aw, cw, rfl, OW, BW⟩
            have hBB := B1.trans ((hB.trans (BW.mono hB.size)).mono B1.size)
            obtain ⟨a5, c5, e5, _, r2, r3, r4⟩ := OW.txs
            obtain ⟨rfl, _, rfl⟩ := slice_inj e5
            obtain ⟨gw, ow, rfl, hgw, hcw⟩ := r4 (by omega)
            obtain ⟨_, ⟨hv, _⟩ | ⟨gv, cv2, cur, hv, hgv, _⟩⟩ := id OW
            · cases hv
            obtain ⟨hv1, _, rfl⟩ := slice_inj hv
            obtain ⟨rfl, rfl⟩ : gw = gv ∧ ow = 0 := by
              have := Option.some.inj hv1
              exact ⟨congrArg Addr.block this, congrArg Addr.off this⟩
            simp only [Nat.zero_add] at hcw
            unfold maxLen at r3
            have HCW : Hid (∀ (j : Nat) (hj : j < ws.length), W1.cell? ⟨gw, j, none⟩ = some (.string ws[j])) := hcw
            have HOW : Hid (OwnT wr.heap.size W1 (.slice (some ⟨gw, 0, none⟩) ws.length cw) ws) := OW
            obtain ⟨p0, p1, p2, p3, p4, p5, p6, p7, r, hws, x0, x1, x2, x3, x4, x5, x6, x7⟩ := cells8 h8n hcw
            have HFE : Hid (refForm ws = ((p0.toList == slotL) && (numOk p2 && (numOk p3 && (numOk p4 && (numOk p5 && (numOk p6 && (numOk p7 && true)))))))) := by rw [Hid, hws, form8]
            have HWS : Hid (ws = p0 :: p1 :: p2 :: p3 :: p4 :: p5 :: p6 :: p7 :: r) := hws
            have hw0 : (p0.toList == slotL) = (p0.toList == [115, 108, 111, 116]) := rfl
            clear hcw r4 e5 hv hv1 OW HW hws h8
            have hn0 : (0 : Int) < (ws.length : Int) := by omega
            have hn1 : (1 : Int) < (ws.length : Int) := by omega
            have hn2 : (2 : Int) < (ws.length : Int) := by omega
            have hn3 : (3 : Int) < (ws.length : Int) := by omega
            have hn4 : (4 : Int) < (ws.length : Int) := by omega
            have hn5 : (5 : Int) < (ws.length : Int) := by omega
            have hn6 : (6 : Int) < (ws.length : Int) := by omega
            have hn7 : (7 : Int) < (ws.length : Int) := by omega
            cases hb : (p0.toList == slotL)
            · have hC : Hid (codeR s = 20) := HNO.out (by rw [HFE.out, hb, Bool.false_and])
              rw [hb] at hw0
              clear HNO HPZ HRF HMP HCW HOW hI HFE HWS
              have hwb := hw0.symm
              clear hw0 hb
              go_wp2_with fail
              refine bodyPost_ret (v := .tuple #[.slice none 0 0, .int .i64 20]) (by simp [results, Tryz.results6, go_sem]) rfl ?_
              exact refR_no hC.out (by decide) hBB
            · rw [hb] at hw0
              have hwb := hw0.symm
              have HFE2 : Hid (refForm ws = (numOk p2 && (numOk p3 && (numOk p4 && (numOk p5 && (numOk p6 && (numOk p7 && true))))))) := by rw [Hid, HFE.out, hb, Bool.true_and]
              clear hw0 hb HFE
              have h8i : (8 : Int) ≤ (ws.length : Int) := by omega
              go_wp2_with fail
              go_region_held3 (fun V => V.cell? ⟨gw, 1, none⟩ = some (.string p1)) (first | exact x1 | go_keep) (fail)
              generalize hAe : (if cw = 8 then (some ⟨gw, 0, none⟩ : Option Addr) else some ⟨gw, 8, none⟩) = hA
              have HAE : Hid ((if cw = 8 then (some ⟨gw, 0, none⟩ : Option Addr) else some ⟨gw, 8, none⟩) = hA) := hAe
              clear hAe
              have HNUM : Hid (∀ (p : ByteArray) (W : World), p.size ≤ 4096 → Calls Tryz.prog 18 #[.string p] W fun e w' => e = .returned (.tuple #[.int .i64 (numI 10 18 p), .bool (numOk p)]) ∧ Below W.heap.size W w') := fun p W h => r9number_any p W (by omega)
              have z2 := HPZ.out p2 (by rw [HWS.out]; simp)
              have z3 := HPZ.out p3 (by rw [HWS.out]; simp)
              have z4 := HPZ.out p4 (by rw [HWS.out]; simp)
              have z5 := HPZ.out p5 (by rw [HWS.out]; simp)
              have z6 := HPZ.out p6 (by rw [HWS.out]; simp)
              have z7 := HPZ.out p7 (by rw [HWS.out]; simp)
              have D0 : Below W1.heap.size W1 ((W1.alloc (.cells #[.string p1, .slice hA (ws.length - 8) (cw - 8), .int .i64 0, .int .i64 0, .int .i64 0, .int .i64 0, .int .i64 0, .int .i64 0] 35)).drew) := ((Below.refl _ _).alloc (Nat.le_refl _) _).drew
              have N0 : ((W1.alloc (.cells #[.string p1, .slice hA (ws.length - 8) (cw - 8), .int .i64 0, .int .i64 0, .int .i64 0, .int .i64 0, .int .i64 0, .int .i64 0] 35)).drew).heap[W1.heap.size]? = some (.cells #[.string p1, .slice hA (ws.length - 8) (cw - 8), .int .i64 0, .int .i64 0, .int .i64 0, .int .i64 0, .int .i64 0, .int .i64 0] 35) := new_at _ _
              have HGL : Hid (gw < W1.heap.size) := hgw
              have y2 := (D0.cell (p := ⟨gw, 2, none⟩) hgw).trans x2
              go_wp2_with fail
              refine (HNUM.out p2 _ z2).mono ?_
              rintro e V2 ⟨rfl, C2⟩
              have D2 := D0.trans (C2.mono D0.size)
              have N2 := (C2.block _ (heap_lt N0)).trans N0
              clear C2 D0 N0
              have y3 := (D2.cell (p := ⟨gw, 3, none⟩) hgw).trans x3
              clear y2
              go_wp2_with fail
              refine (HNUM.out p3 _ z3).mono ?_
              rintro e V3 ⟨rfl, C3⟩
              have D3 := D2.trans (C3.mono D2.size)
              have N3 := (C3.block _ (heap_lt N2)).trans N2
              clear C3 D2 N2
              have y4 := (D3.cell (p := ⟨gw, 4, none⟩) hgw).trans x4
              clear y3
              go_wp2_with fail
              refine (HNUM.out p4 _ z4).mono ?_
              rintro e V4 ⟨rfl, C4⟩
              have D4 := D3.trans (C4.mono D3.size)
              have N4 := (C4.block _ (heap_lt N3)).trans N3
              clear C4 D3 N3
              have y5 := (D4.cell (p := ⟨gw, 5, none⟩) hgw).trans x5
              clear y4
              go_wp2_with fail
              refine (HNUM.out p5 _ z5).mono ?_
              rintro e V5 ⟨rfl, C5⟩
              have D5 := D4.trans (C5.mono D4.size)
              have N5 := (C5.block _ (heap_lt N4)).trans N4
              clear C5 D4 N4
              have y6 := (D5.cell (p := ⟨gw, 6, none⟩) hgw).trans x6
              clear y5
              go_wp2_with fail
              refine (HNUM.out p6 _ z6).mono ?_
              rintro e V6 ⟨rfl, C6⟩
              have D6 := D5.trans (C6.mono D5.size)
              have N6 := (C6.block _ (heap_lt N5)).trans N5
              clear C6 D5 N5
              have y7 := (D6.cell (p := ⟨gw, 7, none⟩) hgw).trans x7
              clear y6
              go_wp2_with fail
              refine (HNUM.out p7 _ z7).mono ?_
              rintro e V7 ⟨rfl, C7⟩
              have D7 := D6.trans (C7.mono D6.size)
              have N7 := (C7.block _ (heap_lt N6)).trans N6
              clear C7 D6 N6
              clear y7 x0 x1 x2 x3 x4 x5 x6 x7 z2 z3 z4 z5 z6 z7 HNUM
              have hBC : Below w.heap.size w V7 := hBB.trans (D7.mono (by have := BW.size; have := hB.size; have := B1.size; omega))
              have HBC : Hid (Below w.heap.size w V7) := hBC
              clear hBC
              cases hb2 : numOk p2
              · have hC : Hid (codeR s = 20) := HNO.out (by rw [HFE2.out]; simp [hb2])
                clear hb2 HNO HPZ HRF HMP HCW HOW hI HFE2 HWS D7 N7 HAE
                go_wp2
                refine bodyPost_ret (v := .tuple #[.slice none 0 0, .int .i64 20]) (by simp [results, Tryz.results6, go_sem]) rfl ?_
                exact refR_no hC.out (by decide) HBC.out
              · have trv : True := trivial
                clear trv
                cases hb3 : numOk p3
                · have hC : Hid (codeR s = 20) := HNO.out (by rw [HFE2.out]; simp [hb2, hb3])
                  clear hb2 hb3 HNO HPZ HRF HMP HCW HOW hI HFE2 HWS D7 N7 HAE
                  go_wp2
                  refine bodyPost_ret (v := .tuple #[.slice none 0 0, .int .i64 20]) (by simp [results, Tryz.results6, go_sem]) rfl ?_
                  exact refR_no hC.out (by decide) HBC.out
                · have trv : True := trivial
                  clear trv
                  cases hb4 : numOk p4
                  · have hC : Hid (codeR s = 20) := HNO.out (by rw [HFE2.out]; simp [hb2, hb3, hb4])
                    clear hb2 hb3 hb4 HNO HPZ HRF HMP HCW HOW hI HFE2 HWS D7 N7 HAE
                    go_wp2
                    refine bodyPost_ret (v := .tuple #[.slice none 0 0, .int .i64 20]) (by simp [results, Tryz.results6, go_sem]) rfl ?_
                    exact refR_no hC.out (by decide) HBC.out
                  · have trv : True := trivial
                    clear trv
                    cases hb5 : numOk p5
                    · have hC : Hid (codeR s = 20) := HNO.out (by rw [HFE2.out]; simp [hb2, hb3, hb4, hb5])
                      clear hb2 hb3 hb4 hb5 HNO HPZ HRF HMP HCW HOW hI HFE2 HWS D7 N7 HAE
                      go_wp2
                      refine bodyPost_ret (v := .tuple #[.slice none 0 0, .int .i64 20]) (by simp [results, Tryz.results6, go_sem]) rfl ?_
                      exact refR_no hC.out (by decide) HBC.out
                    · have trv : True := trivial
                      clear trv
                      cases hb6 : numOk p6
                      · have hC : Hid (codeR s = 20) := HNO.out (by rw [HFE2.out]; simp [hb2, hb3, hb4, hb5, hb6])
                        clear hb2 hb3 hb4 hb5 hb6 HNO HPZ HRF HMP HCW HOW hI HFE2 HWS D7 N7 HAE
                        go_wp2
                        refine bodyPost_ret (v := .tuple #[.slice none 0 0, .int .i64 20]) (by simp [results, Tryz.results6, go_sem]) rfl ?_
                        exact refR_no hC.out (by decide) HBC.out
                      · have trv : True := trivial
                        clear trv
                        cases hb7 : numOk p7
                        · have hC : Hid (codeR s = 20) := HNO.out (by rw [HFE2.out]; simp [hb2, hb3, hb4, hb5, hb6, hb7])
                          clear hb2 hb3 hb4 hb5 hb6 hb7 HNO HPZ HRF HMP HCW HOW hI HFE2 HWS D7 N7 HAE
                          go_wp2
                          refine bodyPost_ret (v := .tuple #[.slice none 0 0, .int .i64 20]) (by simp [results, Tryz.results6, go_sem]) rfl ?_
                          exact refR_no hC.out (by decide) HBC.out
                        · have trv : True := trivial
                          clear trv
                          have hF : refForm ws = true := by rw [HFE2.out]; simp [hb2, hb3, hb4, hb5, hb6, hb7]
                          have hst := ri_step hI.out hxl (by omega) BW hgv hgw HOW.out.txs HWS.out D7 (by rw [HAE.out]; exact N7) (HRF.out hF) HMP.out
                          rw [HAE.out] at hst
                          obtain ⟨g8, c8, W8, r8, xs8, hx8, I8⟩ := hst
                          have HI8 : Hid (RI w1 ls (i + 1) W8 (.slice (some ⟨g8, 0, none⟩) (i + 1) c8) xs8) := I8
                          have k0 : V7.cell? ⟨W1.heap.size, 0, none⟩ = some (.string p1) := ring_cell N7 rfl
                          have k1 : V7.cell? ⟨W1.heap.size, 1, none⟩ = some (.slice hA (ws.length - 8) (cw - 8)) := ring_cell N7 rfl
                          have k2 : V7.cell? ⟨W1.heap.size, 2, none⟩ = some (.int .i64 0) := ring_cell N7 rfl
                          have zz2 : V7.frozen? ⟨W1.heap.size, 2, none⟩ = false := ring_z N7
                          have k3 : V7.cell? ⟨W1.heap.size, 3, none⟩ = some (.int .i64 0) := ring_cell N7 rfl
                          have zz3 : V7.frozen? ⟨W1.heap.size, 3, none⟩ = false := ring_z N7
                          have k4 : V7.cell? ⟨W1.heap.size, 4, none⟩ = some (.int .i64 0) := ring_cell N7 rfl
                          have zz4 : V7.frozen? ⟨W1.heap.size, 4, none⟩ = false := ring_z N7
                          have k5 : V7.cell? ⟨W1.heap.size, 5, none⟩ = some (.int .i64 0) := ring_cell N7 rfl
                          have zz5 : V7.frozen? ⟨W1.heap.size, 5, none⟩ = false := ring_z N7
                          have k6 : V7.cell? ⟨W1.heap.size, 6, none⟩ = some (.int .i64 0) := ring_cell N7 rfl
                          have zz6 : V7.frozen? ⟨W1.heap.size, 6, none⟩ = false := ring_z N7
                          have k7 : V7.cell? ⟨W1.heap.size, 7, none⟩ = some (.int .i64 0) := ring_cell N7 rfl
                          have zz7 : V7.frozen? ⟨W1.heap.size, 7, none⟩ = false := ring_z N7
                          clear hb2 hb3 hb4 hb5 hb6 hb7 HNO HPZ HRF HMP HCW HOW hI HFE2 HWS D7 N7 HAE hF I8
                          have hx9 : Hid (xs8.length = i + 1) := hx8
                          clear hx8 hxl
                          go_wp2_with (at_builtin; refine wpList_append_run2 rfl _ _ 23 23 rfl _ _ _ W8 rfl rfl r8 ?_)
                          go_wp2
                          go_roundw
                          case rel => exact ⟨i + 1, xs8, _, c8, by omega, by go_num, hx9.out, rfl, HI8.out⟩
                          case measure => simp [intOf]; omega
        · have hi' : i = ls.length := by omega
          subst hi'
          have hRI := hI.out
          obtain ⟨hO, hM, hA, hX, hB⟩ := hRI
          rw [List.take_length] at hM hA
          have HM : Hid (xs.map (·.s) = refTab s) := by rw [Hid, hM, HRT.out]
          have hub : ∀ t ∈ refTab s, UBd t := fun t ht => by
            rw [HRT.out] at ht
            obtain ⟨l, hl, rfl⟩ := List.mem_map.1 ht
            have h4 := HSZ.out l hl
            refine ⟨?_, fun y hy => ?_⟩
            · show ((piecew l).getD 1 ⟨#[]⟩).size ≤ _
              rcases Nat.lt_or_ge 1 (piecew l).length with c | c
              · rw [List.getD, List.getElem?_eq_getElem c, Option.getD_some]
                have := piecew_size l _ (List.getElem_mem c)
                omega
              · rw [List.getD, List.getElem?_eq_none c, Option.getD_none]; decide
            · have := piecew_size l y (List.drop_subset _ _ hy)
              omega
          have hS := hO.sls
          rw [HM.out] at hS
          have hlen : (refTab s).length = ls.length := by rw [← HM.out, List.length_map, hxl]
          have HR : Hid (Calls Tryz.prog 19 #[.slice ao ls.length cv] wr fun e w' => e = .returned (.bool (rightP (refTab s))) ∧ Below wr.heap.size wr w') := by
            have := r9right_any (refTab s) ao cv wr (by rw [hlen]; exact hS) hub
            rw [hlen] at this
            exact this
          have HS : Hid (Sls wr.heap.size wr (.slice ao ls.length cv) (refTab s)) := hS
          have HA : Hid ((ls.all fun l => refForm (piecew l)) = true) := hA
          have HBW : Hid (Below w.heap.size w wr) := B1.trans (hB.mono B1.size)
          have hlt2 : ¬ (ls.length : Int) < (ls.length : Int) := by omega
          clear hM hA hX hO hB hub hS hlen HM HRT HSZ HNF HLT hlt hI hxl
          cases hr : rightP (refTab s)
          · have hC : Hid (codeR s = 60) := HBAD.out HA.out hr
            rw [hr] at HR
            clear hr HBAD HGOOD HA
            generalize ls.length = n at *
            go_wp2_with fail
            refine HR.out.mono ?_
            rintro e W9 ⟨rfl, B9⟩
            go_wp2
            refine bodyPost_ret (v := .tuple #[.slice none 0 0, .int .i64 60]) (by simp [results, Tryz.results6, go_sem]) rfl ?_
            exact refR_no hC.out (by decide) (HBW.out.trans (B9.mono HBW.out.size))
          · have hC : Hid (codeR s = 0) := HGOOD.out HA.out hr
            rw [hr] at HR
            clear hr HBAD HGOOD HA
            generalize ls.length = n at *
            go_wp2_with fail
            refine HR.out.mono ?_
            rintro e W9 ⟨rfl, B9⟩
            go_wp2
            refine bodyPost_ret (v := .tuple #[.slice ao n cv, .int .i64 0]) (by simp [results, Tryz.results6, go_sem]) rfl ?_
            exact ⟨ao, n, cv, by rw [hC.out], HBW.out.trans (B9.mono HBW.out.size), (fun _ => Sls.mono (Sls.keep HS.out B9) B9.size), fun e => absurd hC.out e⟩
end Go.Proofs.YthmhaflkkigenaaGreatDoor
