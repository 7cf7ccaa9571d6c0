/- A number's text is read as that number: plain facts on texts and digits, for every int64 that may be. -/
import Derived.Test.YtkbpjomkbelaaaaDoorPrint
import Derived.Test.YtkbpjomkbelaaaaDoorRParseM
namespace Go.Proofs.YtkbpjomkbelaaaaDoor
open Go.Shelf Go.RowKit
set_option linter.unusedVariables false
theorem dig_ofNat (k : Nat) (h : k < 10) : isDig (UInt8.ofNat (48 + k)) = true ∧ (UInt8.ofNat (48 + k)).toNat = 48 + k := by
  have e : (UInt8.ofNat (48 + k)).toNat = 48 + k := by rw [UInt8.toNat_ofNat']; omega
  exact ⟨by unfold isDig; rw [e]; simp; omega, e⟩
theorem decDigits_big {u : Nat} (h : ¬ u < 10) : Lib.decDigits u = Lib.decDigits (u / 10) ++ [UInt8.ofNat (48 + u % 10)] := by rw [Lib.decDigits, dif_neg h]
theorem dd_all (u : Nat) : (Lib.decDigits u).all isDig = true := by
  induction u using Nat.strongRecOn with
  | ind u ih =>
    by_cases h : u < 10
    · rw [Lib.decDigits_one h]; simp only [List.all_cons, List.all_nil, Bool.and_true]; exact (dig_ofNat u h).1
    · rw [decDigits_big h, List.all_append, ih (u / 10) (by omega)]; simp only [List.all_cons, List.all_nil, Bool.and_true, Bool.true_and]; exact (dig_ofNat (u % 10) (by omega)).1
theorem dd_cnt (u : Nat) : cnt (Lib.decDigits u) = u := by
  induction u using Nat.strongRecOn with
  | ind u ih =>
    by_cases h : u < 10
    · rw [Lib.decDigits_one h]; simp only [cnt, List.foldl_cons, List.foldl_nil]; rw [(dig_ofNat u h).2]; omega
    · rw [decDigits_big h, cnt_snoc, ih (u / 10) (by omega), (dig_ofNat (u % 10) (by omega)).2]; omega
theorem dd_head (u : Nat) (h : 1 ≤ u) : (Lib.decDigits u).head? ≠ some 48 := by
  induction u using Nat.strongRecOn with
  | ind u ih =>
    by_cases h10 : u < 10
    · rw [Lib.decDigits_one h10]
      simp only [List.head?_cons]
      intro he
      have := congrArg UInt8.toNat (Option.some.inj he)
      rw [(dig_ofNat u h10).2] at this
      have e : (48 : UInt8).toNat = 48 := rfl
      omega
    · rw [decDigits_big h10]
      have hne : (Lib.decDigits (u / 10)).length ≠ 0 := by rw [Lib.decDigits_length]; have := Lib.nDigits_pos (u / 10); omega
      cases hl : Lib.decDigits (u / 10) with
      | nil => rw [hl] at hne; exact absurd rfl hne
      | cons x l =>
        have := ih (u / 10) (by omega) (by omega)
        rw [hl] at this
        simpa using this
/-- Noughts at the end of four digits count nothing. -/
theorem trim_pad (l : List UInt8) : ∃ m, l = Lib.trimRightB l 48 ++ List.replicate m 48 ∧ (Lib.trimRightB l 48).length + m = l.length := by
  have key : ∀ r : List UInt8, ∃ m, r = List.replicate m 48 ++ r.dropWhile (· == 48) := by
    intro r
    induction r with
    | nil => exact ⟨0, rfl⟩
    | cons a r ih =>
      rw [List.dropWhile_cons]
      by_cases h : (a == 48) = true
      · rw [if_pos h]
        obtain ⟨m, hm⟩ := ih
        refine ⟨m + 1, ?_⟩
        have ha : a = 48 := by simpa using h
        rw [List.replicate_succ, List.cons_append, ← hm, ha]
      · rw [if_neg h]; exact ⟨0, rfl⟩
  obtain ⟨m, hm⟩ := key l.reverse
  refine ⟨m, ?_, ?_⟩
  · unfold Lib.trimRightB
    have := congrArg List.reverse hm
    rw [List.reverse_reverse, List.reverse_append, List.reverse_replicate] at this
    exact this
  · unfold Lib.trimRightB
    have := congrArg List.length hm
    simp at this ⊢; omega
theorem dd5_tail (n : Nat) (h : n < 10000) : Lib.decDigits (10000 + n) = 49 :: (Lib.decDigits (10000 + n)).drop 1 ∧ cnt ((Lib.decDigits (10000 + n)).drop 1) = n ∧ ((Lib.decDigits (10000 + n)).drop 1).length = 4 ∧ ((Lib.decDigits (10000 + n)).drop 1).all isDig = true := by
  have hl : (Lib.decDigits (10000 + n)).length = 5 := by rw [Lib.decDigits_length]; exact Lib.nDigits_unique 4 _ (by omega) (by omega)
  have ha := dd_all (10000 + n)
  have hc := dd_cnt (10000 + n)
  match hx : Lib.decDigits (10000 + n), hl with
  | [a, b, c, d, e], _ =>
    rw [hx] at ha hc
    simp only [List.all_cons, List.all_nil, Bool.and_true, Bool.and_eq_true] at ha
    obtain ⟨h1, h2, h3, h4, h5⟩ := ha
    simp only [isDig, Bool.and_eq_true, decide_eq_true_eq] at h1 h2 h3 h4 h5
    simp only [cnt, List.foldl_cons, List.foldl_nil] at hc
    have ea : a = 49 := UInt8.toNat_inj.1 (by show a.toNat = 49; omega)
    refine ⟨by rw [ea]; rfl, ?_, rfl, ?_⟩
    · simp only [List.drop_succ_cons, List.drop_zero, cnt, List.foldl_cons, List.foldl_nil]; omega
    · simp [isDig]; omega
theorem ix_none : ∀ l : List UInt8, l.all isDig = true → Lib.indexByte l 46 = -1
  | [], _ => rfl
  | a :: l, h => by
    simp only [List.all_cons, Bool.and_eq_true] at h
    have ha : (a == 46) = false := by
      rw [beq_eq_false_iff_ne]; intro e; rw [e, dot_no] at h; exact absurd h.1 (by decide)
    simp only [Lib.indexByte, ha, ix_none l h.2]; rfl
theorem ix_dot : ∀ (l r : List UInt8), l.all isDig = true → Lib.indexByte (l ++ 46 :: r) 46 = l.length
  | [], r, _ => by simp [Lib.indexByte]
  | a :: l, r, h => by
    simp only [List.all_cons, Bool.and_eq_true] at h
    have ha : (a == 46) = false := by
      rw [beq_eq_false_iff_ne]; intro e; rw [e, dot_no] at h; exact absurd h.1 (by decide)
    have hi := ix_dot l r h.2
    have hn : ((l.length : Int) == -1) = false := by rw [beq_eq_false_iff_ne]; omega
    simp only [List.cons_append, Lib.indexByte, ha, hi, hn, List.length_cons]
    simp
theorem nd_le : ∀ (u k : Nat), 1 ≤ k → u < 10 ^ k → Lib.nDigits u ≤ k
  | u, 0, h, _ => by omega
  | u, 1, _, h => by rw [Lib.nDigits_small (by omega)]; exact Nat.le_refl 1
  | u, k + 2, _, h => by
    by_cases h10 : u < 10
    · rw [Lib.nDigits_small h10]; omega
    · rw [Lib.nDigits_big h10]
      have := nd_le (u / 10) (k + 1) (by omega) (by rw [Nat.pow_succ] at h; omega)
      omega
theorem ip_facts (n : Nat) (hn : n ≤ 9223372036854775807) : 1 ≤ (Lib.decDigits (n / 10000)).length ∧ (Lib.decDigits (n / 10000)).length ≤ 15 ∧ (1 < (Lib.decDigits (n / 10000)).length → (Lib.decDigits (n / 10000)).head? ≠ some 48) := by
  have h1 := Lib.nDigits_pos (n / 10000)
  rw [Lib.decDigits_length]
  refine ⟨h1, ?_, fun h => dd_head _ ?_⟩
  · by_cases h10 : n / 10000 < 10
    · rw [Lib.nDigits_small h10]; decide
    · have hc := dd_cnt (n / 10000)
      by_cases hle : Lib.nDigits (n / 10000) ≤ 15
      · exact hle
      · obtain ⟨k, hk⟩ : ∃ k, Lib.nDigits (n / 10000) = k + 1 := ⟨Lib.nDigits (n / 10000) - 1, by omega⟩
        have := Lib.lt_pow_nDigits (n / 10000)
        have hlow : 10 ^ k ≤ n / 10000 := by
          have hb := Lib.numDigits_eq (n / 10000) (by omega) (by omega)
          by_cases hlt : n / 10000 < 10 ^ k
          · exfalso
            have := nd_le (n / 10000) k (by omega) hlt
            omega
          · omega
        have h15 : 10 ^ 15 ≤ 10 ^ k := Nat.pow_le_pow_right (by decide) (by omega)
        omega
  · by_cases h0 : n / 10000 = 0
    · rw [h0, Lib.nDigits_small (by decide)] at h; omega
    · omega
/-- What is read of a text without a sign. -/
theorem lead_list {a : ByteArray} (h : 1 < a.data.toList.length → a.data.toList.head? ≠ some 48) : lead0 a = false := by
  unfold lead0
  by_cases hs : 1 < a.size
  · rw [dif_pos hs]
    have hx := h (by rw [size_list]; exact hs)
    have hl : a.data.toList[0]? = some a[0] := list_at (by omega)
    rw [← List.head?_eq_getElem?] at hl
    rw [hl] at hx
    rw [beq_eq_false_iff_ne]
    intro he
    exact hx (by rw [UInt8.toNat_inj.1 (show a[0].toNat = (48 : UInt8).toNat from he)])
  · rw [dif_neg hs]
theorem digs_list {a : ByteArray} {m : Int} (h1 : 1 ≤ a.data.toList.length) (h2 : (a.data.toList.length : Int) ≤ m) (h3 : a.data.toList.all isDig = true) : digsB a m = true := by
  rw [size_list] at h1 h2
  unfold digsB allDig
  rw [decide_eq_true h1, decide_eq_true h2, h3]; rfl
theorem num_whole (n : Nat) (hn : n ≤ 9223372036854775807) (hr : n % 10000 = 0) : numOk (ipB n) = true ∧ partsN (ipB n) = n := by
  obtain ⟨f1, f2, f3⟩ := ip_facts n hn
  have hl : (ipB n).data.toList = Lib.decDigits (n / 10000) := rfl
  have hp : ptAt (ipB n) = -1 := by unfold ptAt; rw [hl]; exact ix_none _ (dd_all _)
  have cF : cutF (ipB n) = false := by unfold cutF; rw [hp]; rfl
  have cA : cutA (ipB n) = ipB n := by unfold cutA; rw [hp]; rfl
  have cB : cutB (ipB n) = ⟨#[]⟩ := by unfold cutB; rw [hp]; rfl
  refine ⟨?_, ?_⟩
  · unfold numOk
    rw [cA, cF, digs_list (by rw [hl]; exact f1) (by rw [hl]; omega) (by rw [hl]; exact dd_all _), lead_list (by rw [hl]; exact f3)]; rfl
  · unfold partsN
    rw [cA, hl, dd_cnt, frac_list, cB]
    have : cnt ((ByteArray.mk #[]).data.toList ++ [48, 48, 48, 48] |>.take 4) = 0 := by decide
    rw [this]; omega
theorem num_frac (n : Nat) (hn : n ≤ 9223372036854775807) (hr : n % 10000 ≠ 0) : numOk (ipB n ++ (⟨#[46]⟩ ++ frB n)) = true ∧ partsN (ipB n ++ (⟨#[46]⟩ ++ frB n)) = n := by
  obtain ⟨f1, f2, f3⟩ := ip_facts n hn
  obtain ⟨g1, g2, g3, g4⟩ := dd5_tail (n % 10000) (by omega)
  generalize hd : ipB n ++ (⟨#[46]⟩ ++ frB n) = d
  generalize hL : (Lib.decDigits (10000 + n % 10000)).drop 1 = T at *
  have hfr : (frB n).data.toList = Lib.trimRightB T 48 := by rw [← hL]; rfl
  have hl : d.data.toList = Lib.decDigits (n / 10000) ++ 46 :: Lib.trimRightB T 48 := by
    rw [← hd, ← hfr, ByteArray.data_append, ByteArray.data_append, Array.toList_append, Array.toList_append]; rfl
  have hp : ptAt d = ((Lib.decDigits (n / 10000)).length : Nat) := by unfold ptAt; rw [hl]; exact ix_dot _ _ (dd_all _)
  have h0 : 0 ≤ ptAt d := by omega
  have ht : (ptAt d).toNat = (Lib.decDigits (n / 10000)).length := by omega
  have cF : cutF d = true := by unfold cutF; exact decide_eq_true h0
  have cA : (cutA d).data.toList = Lib.decDigits (n / 10000) := by
    unfold cutA; rw [if_pos h0, ht, list_extract0, hl, List.take_left]
  have cB : (cutB d).data.toList = Lib.trimRightB T 48 := by
    unfold cutB; rw [if_pos h0, ht, ByteArray.data_extract, Array.toList_extract, List.extract_eq_take_drop]
    have hsz : d.size = d.data.toList.length := rfl
    rw [hsz, List.take_of_length_le (by rw [List.length_drop]; omega), hl]
    rw [← List.drop_drop, List.drop_left]; rfl
  obtain ⟨m, hm1, hm2⟩ := trim_pad T
  have hne : 1 ≤ (Lib.trimRightB T 48).length := by
    by_cases hz : (Lib.trimRightB T 48).length = 0
    · exfalso
      have he : Lib.trimRightB T 48 = [] := List.eq_nil_of_length_eq_zero hz
      rw [he, List.nil_append] at hm1
      have h4 : m = 4 := by rw [he] at hm2; simp at hm2; omega
      rw [hm1, h4] at g2
      have : cnt (List.replicate 4 48) = 0 := by decide
      omega
    · omega
  have hta : (Lib.trimRightB T 48).all isDig = true := by
    rw [hm1, List.all_append, Bool.and_eq_true] at g4; exact g4.1
  refine ⟨?_, ?_⟩
  · unfold numOk
    rw [cF, digs_list (by rw [cA]; exact f1) (by rw [cA]; omega) (by rw [cA]; exact dd_all _), lead_list (by rw [cA]; exact f3), digs_list (by rw [cB]; exact hne) (by rw [cB]; omega) (by rw [cB]; exact hta)]; rfl
  · unfold partsN
    rw [cA, dd_cnt, frac_list, cB]
    have : (Lib.trimRightB T 48 ++ [48, 48, 48, 48]).take 4 = T := by
      have e4 : ([48, 48, 48, 48] : List UInt8) = List.replicate m 48 ++ List.replicate (4 - m) 48 := by
        rw [List.replicate_append_replicate, show m + (4 - m) = 4 by omega]; rfl
      rw [e4, ← List.append_assoc, ← hm1, List.take_left' g3]
    rw [this, g2]; omega
theorem num_any (n : Nat) (hn : n ≤ 9223372036854775807) : numOk (numB n) = true ∧ partsN (numB n) = n := by
  unfold numB
  by_cases hr : n % 10000 = 0
  · rw [if_pos hr]; exact num_whole n hn hr
  · rw [if_neg hr]; exact num_frac n hn hr
theorem num_head (n : Nat) : ∃ x l, (numB n).data.toList = x :: l ∧ isDig x = true := by
  have h1 : 1 ≤ (Lib.decDigits (n / 10000)).length := by rw [Lib.decDigits_length]; exact Lib.nDigits_pos _
  have ha := dd_all (n / 10000)
  have hl : ∃ t, (numB n).data.toList = Lib.decDigits (n / 10000) ++ t := by
    unfold numB
    split
    · exact ⟨[], by rw [List.append_nil]; rfl⟩
    · exact ⟨_, by rw [ByteArray.data_append, Array.toList_append]; rfl⟩
  obtain ⟨t, ht⟩ := hl
  cases hd : Lib.decDigits (n / 10000) with
  | nil => rw [hd] at h1; exact absurd h1 (by decide)
  | cons x l =>
    rw [hd] at ht ha
    simp only [List.all_cons, Bool.and_eq_true] at ha
    exact ⟨x, l ++ t, by rw [ht]; rfl, ha.1⟩
theorem neg_num (n : Nat) : negS (numB n) = false := by
  obtain ⟨x, l, h, hx⟩ := num_head n
  unfold negS Lib.hasPrefix
  rw [h]
  have : (45 == x) = false := by
    rw [beq_eq_false_iff_ne]; intro e; rw [← e] at hx; exact absurd hx (by decide)
  simp [List.isPrefixOf, this]
theorem neg_minus (d : ByteArray) : negS (⟨#[45]⟩ ++ d) = true := by
  unfold negS Lib.hasPrefix
  rw [ByteArray.data_append, Array.toList_append]
  rfl
theorem dg_minus (d : ByteArray) : dgS (⟨#[45]⟩ ++ d) = d := by
  unfold dgS
  rw [neg_minus, if_pos rfl]
  apply ByteArray.ext
  apply Array.ext'
  rw [ByteArray.data_extract, Array.toList_extract, List.extract_eq_take_drop]
  have hs : (⟨#[45]⟩ ++ d : ByteArray).size = (⟨#[45]⟩ ++ d : ByteArray).data.toList.length := rfl
  rw [hs, List.take_of_length_le (by rw [List.length_drop]; omega), ByteArray.data_append, Array.toList_append]
  rfl
/-- What is written is read. -/
theorem read_back (x : Int) (h1 : -9223372036854775807 ≤ x) (h2 : x ≤ 9223372036854775807) : parseOk (printB x) = true ∧ parseV (printB x) = x := by
  obtain ⟨k1, k2⟩ := num_any x.natAbs (by omega)
  unfold printB
  rw [if_neg (by omega)]
  by_cases h0 : x < 0
  · rw [if_pos h0]
    have ok : parseOk (⟨#[45]⟩ ++ numB x.natAbs) = true := by
      unfold parseOk; rw [dg_minus, k1, k2, neg_minus, decide_eq_true (show x.natAbs ≤ 9223372036854775807 by omega), decide_eq_false (show ¬ x.natAbs = 0 by omega)]; rfl
    refine ⟨ok, ?_⟩
    unfold parseV; rw [ok, if_pos rfl, neg_minus, if_pos rfl, dg_minus, k2]; omega
  · rw [if_neg h0]
    have hdg : dgS (numB x.natAbs) = numB x.natAbs := by unfold dgS; rw [neg_num]; rfl
    have ok : parseOk (numB x.natAbs) = true := by
      unfold parseOk; rw [hdg, k1, k2, neg_num, decide_eq_true (show x.natAbs ≤ 9223372036854775807 by omega)]; rfl
    refine ⟨ok, ?_⟩
    unfold parseV; rw [ok, if_pos rfl, neg_num, hdg, k2]
    simp; omega
theorem read_none : parseOk ⟨#[]⟩ = false := by decide
end Go.Proofs.YtkbpjomkbelaaaaDoor
