/- What follows of the tokens' places, in plain lists: they rise, stand in the text, and just the last token is an end or wrong. No walk. · How far a token reaches hangs on its own bytes and on the first one behind it alone, in plain lists. No walk. -/
import Derived.Test.YtaamphdihmghhaaGreatDoorQLK
namespace Go.Proofs.YtaamphdihmghhaaGreatDoor
open Go.RowKit
set_option linter.all false
theorem kind0 (s : ByteArray) : (rdT s).kind = 0 ↔ s.data.toList = [] := by
  unfold rdT rdNum rdQ rdF rdW rdCell rdRect tk0 tkNum tkStr tkCell tkRect tkCode
  by_cases h : s.data.toList = []
  · simp [h]
  · rw [if_neg h]
    constructor
    · intro h2
      exfalso
      revert h2
      repeat' split
      all_goals simp
    · intro h2; exact absurd h2 h
/-- Places rise from lo on, stand within n; just the last is an end, at n, or wrong. -/
def Good (n : Nat) : Int → List Tk → Prop
  | _, [] => False
  | lo, t :: r => lo ≤ t.at' ∧ t.at' ≤ n ∧ ((r = [] ∧ (t.kind = 8 ∨ (t.kind = 0 ∧ t.at' = n))) ∨ (r ≠ [] ∧ t.kind ≠ 8 ∧ t.kind ≠ 0 ∧ Good n (t.at' + 1) r))
theorem Good.ne {n : Nat} {lo : Int} {l : List Tk} (h : Good n lo l) : l ≠ [] := by rintro rfl; exact h
theorem Good.low {n : Nat} {lo lo' : Int} {l : List Tk} (h : Good n lo l) (hl : lo' ≤ lo) : Good n lo' l := by
  cases l with
  | nil => exact h
  | cons t r => exact ⟨by have := h.1; omega, h.2⟩
theorem Good.pos {n : Nat} {lo : Int} {l : List Tk} (h : Good n lo l) : 0 < l.length := by
  cases l with
  | nil => exact h.elim
  | cons t r => simp
theorem Good.at : ∀ {l : List Tk} {n : Nat} {lo : Int} {i : Nat} {t : Tk}, Good n lo l → l[i]? = some t →
    lo ≤ t.at' ∧ t.at' ≤ n ∧ ((i + 1 = l.length ∧ (t.kind = 8 ∨ (t.kind = 0 ∧ t.at' = n))) ∨ (i + 1 < l.length ∧ t.kind ≠ 8 ∧ t.kind ≠ 0))
  | [], _, _, _, _, h, _ => h.elim
  | u :: r, n, lo, 0, t, h, hi => by
    simp at hi; subst hi
    refine ⟨h.1, h.2.1, ?_⟩
    rcases h.2.2 with ⟨h1, h2⟩ | ⟨h1, h2, h3, _⟩
    · subst h1; exact .inl ⟨rfl, h2⟩
    · refine .inr ⟨?_, h2, h3⟩
      cases r with
      | nil => exact absurd rfl h1
      | cons a b => simp
  | u :: r, n, lo, i + 1, t, h, hi => by
    have hi' : r[i]? = some t := by simpa using hi
    rcases h.2.2 with ⟨h1, h2⟩ | ⟨h1, h2, h3, h4⟩
    · subst h1; simp at hi'
    · have ih := Good.at h4 hi'
      refine ⟨by have := h.1; have := ih.1; omega, ih.2.1, ?_⟩
      simp only [List.length_cons]
      rcases ih.2.2 with ⟨k1, k2⟩ | ⟨k1, k2⟩
      · exact .inl ⟨by omega, k2⟩
      · exact .inr ⟨by omega, k2⟩
theorem Good.next : ∀ {l : List Tk} {n : Nat} {lo : Int} {i : Nat} {t u : Tk}, Good n lo l → l[i]? = some t → l[i + 1]? = some u → t.at' < u.at'
  | [], _, _, _, _, _, h, _, _ => h.elim
  | v :: r, n, lo, 0, t, u, h, ht, hu => by
    simp at ht; subst ht
    have hu' : r[0]? = some u := by simpa using hu
    rcases h.2.2 with ⟨h1, _⟩ | ⟨_, _, _, h4⟩
    · subst h1; simp at hu'
    · have := (Good.at h4 hu').1; omega
  | v :: r, n, lo, i + 1, t, u, h, ht, hu => by
    rcases h.2.2 with ⟨h1, _⟩ | ⟨_, _, _, h4⟩
    · subst h1; simp at ht
    · exact Good.next h4 (by simpa using ht) (by simpa using hu)
theorem kindAt (x : Nat × List UInt8) : (tkAt x).kind = (rdT (bs x.2)).kind := rfl
theorem atAt (x : Nat × List UInt8) : (tkAt x).at' = (x.1 : Int) := rfl
theorem good_pcs : ∀ (f : Nat) (rest : List UInt8) (n : Nat), rest.length < f → rest.length ≤ n → Good n ((n : Int) - (rest.length : Int)) (cutW ((pcs f rest n).map tkAt))
  | 0, rest, n, h, _ => absurd h (by omega)
  | f + 1, rest, n, h, hn => by
    rw [pcs_succ, List.map_cons, cutW]
    have h1 := dropB_le rest
    have hk := kind0 (bs ((dropB rest).take (reachL (dropB rest))))
    rw [bs_data, take_nil_iff] at hk
    by_cases hr : dropB rest = []
    · have hk0 := hk.2 hr
      rw [if_pos ((take_nil_iff _).2 hr), List.map_nil]
      refine ⟨?_, ?_, .inl ⟨?_, .inr ⟨?_, ?_⟩⟩⟩
      · rw [atAt]; dsimp only; omega
      · rw [atAt]; dsimp only; omega
      · split <;> rfl
      · rw [kindAt]; exact hk0
      · rw [atAt]; dsimp only; rw [hr]; simp
    · have hp := len_pos hr
      have hq := reachL_pos hr
      have hle := reachL_le (dropB rest)
      have hk0 : (rdT (bs ((dropB rest).take (reachL (dropB rest))))).kind ≠ 0 := fun e => hr (hk.1 e)
      rw [if_neg (fun e => hr ((take_nil_iff _).1 e))]
      have ih := good_pcs f ((dropB rest).drop (reachL (dropB rest))) n (by rw [List.length_drop]; omega) (by rw [List.length_drop]; omega)
      rw [List.length_drop] at ih
      refine ⟨?_, ?_, ?_⟩
      · rw [atAt]; dsimp only; omega
      · rw [atAt]; dsimp only; omega
      · by_cases h8 : (tkAt (n - (dropB rest).length, (dropB rest).take (reachL (dropB rest)))).kind = 8
        · rw [if_pos h8]; exact .inl ⟨rfl, .inl h8⟩
        · rw [if_neg h8]
          refine .inr ⟨ih.ne, h8, by rw [kindAt]; exact hk0, ih.low ?_⟩
          rw [atAt]; dsimp only; omega
theorem good_toks (s : ByteArray) : Good s.size 0 (toks s) := by
  unfold toks
  cases hF : isF s
  · exact ⟨by decide, by show (0 : Int) ≤ _; omega, .inl ⟨rfl, .inl rfl⟩⟩
  · have h1 : 1 ≤ s.size := by
      rw [size_len]
      cases hl : s.data.toList with
      | nil => unfold isF at hF; rw [hl] at hF; simp at hF
      | cons c t => simp
    have h := good_pcs s.size (s.data.toList.drop 1) s.size (by rw [List.length_drop, ← size_len]; omega) (by rw [List.length_drop, ← size_len]; omega)
    exact h.low (by rw [List.length_drop, ← size_len]; omega)
end Go.Proofs.YtaamphdihmghhaaGreatDoor
namespace Go.Proofs.YtaamphdihmghhaaGreatDoor
open Go.RowKit
set_option linter.all false
/-- What may stand behind a piece in the place of q1: nothing, a blank, or what begins as q1 does. -/
def NX (q1 q2 : List UInt8) : Prop := q2 = [] ∨ (∃ t, q2 = 32 :: t) ∨ (∃ c t1 t2, q1 = c :: t1 ∧ q2 = c :: t2)
theorem NX.fol {q1 q2 cs : List UInt8} (h : NX q1 q2) (hc : cs.contains 32 = false) (h1 : bgn q1 cs = false) : bgn q2 cs = false := by
  rcases h with rfl | ⟨t, rfl⟩ | ⟨c, t1, t2, rfl, rfl⟩
  · rfl
  · exact hc
  · exact h1
theorem run_iff (p q cs : List UInt8) : runL (p ++ q) cs = p.length ↔ ((∀ c ∈ p, cs.contains c = true) ∧ bgn q cs = false) := by
  induction p with
  | nil =>
    cases q with
    | nil => simp [runL, bgn]
    | cons c t =>
      simp only [List.nil_append, List.length_nil, bgn, runL]
      rw [List.takeWhile_cons]
      cases hc : cs.contains c
      · exact ⟨fun _ => ⟨fun d hd => by simp at hd, rfl⟩, fun _ => rfl⟩
      · constructor
        · intro h; simp at h
        · intro h; exact absurd h.2 (by simp)
  | cons a r ih =>
    simp only [List.cons_append, List.length_cons, runL] at ih ⊢
    cases ha : cs.contains a
    · rw [List.takeWhile_cons, ha]
      constructor
      · intro h; simp at h
      · intro h; have := h.1 a (by simp); rw [ha] at this; simp at this
    · rw [List.takeWhile_cons, ha]
      simp only [if_true, List.length_cons, Nat.add_right_cancel_iff, List.mem_cons, forall_eq_or_imp, ha, true_and]
      exact ih
theorem run_in (p q cs : List UInt8) (h : runL (p ++ q) cs < p.length) : ∀ q2, runL (p ++ q2) cs = runL (p ++ q) cs := by
  induction p with
  | nil => simp at h
  | cons a r ih =>
    intro q2
    simp only [List.cons_append, List.length_cons, runL] at ih h ⊢
    cases ha : cs.contains a
    · rw [List.takeWhile_cons, List.takeWhile_cons, ha]; rfl
    · rw [List.takeWhile_cons, ha] at h
      rw [List.takeWhile_cons, List.takeWhile_cons, ha]
      simp only [if_true, List.length_cons, Nat.add_right_cancel_iff] at h ⊢
      exact ih (by omega) q2
theorem NX.fol_q0 {q1 q2 : List UInt8} (h : NX q1 q2) (h1 : bgn q1 [34] = false) : bgn q2 [34] = false := h.fol (by decide) h1
theorem qr_end : ∀ (p q1 : List UInt8), qrL (p ++ q1) = p.length → p.count 34 % 2 = 1 → bgn q1 [34] = false
  | [], q1, _, h2 => by simp at h2
  | [c], q1, h1, h2 => by
    have hc : c = 34 := by
      apply Classical.byContradiction
      intro hn
      rw [List.count_cons_of_ne (by simpa using hn)] at h2
      simp at h2
    subst hc
    cases q1 with
    | nil => rfl
    | cons d t =>
      by_cases hd : d = 34
      · subst hd
        have h1' : (if (34 : UInt8) = 34 then (if (34 : UInt8) = 34 then 2 + qrL t else 1) else 1 + qrL (34 :: t)) = 1 := h1
        simp at h1'
        omega
      · simpa [bgn] using hd
  | c :: d :: t, q1, h1, h2 => by
    simp only [List.cons_append, List.length_cons, qrL] at h1
    by_cases hc : c = 34
    · subst hc
      by_cases hd : d = 34
      · subst hd
        rw [if_pos rfl, if_pos rfl] at h1
        rw [List.count_cons_self, List.count_cons_self] at h2
        exact qr_end t q1 (by omega) (by omega)
      · rw [if_pos rfl, if_neg hd] at h1; omega
    · rw [if_neg hc] at h1
      rw [List.count_cons_of_ne (by simpa using hc)] at h2
      exact qr_end (d :: t) q1 (by simp only [List.cons_append, List.length_cons]; omega) h2
theorem qr_ext : ∀ (p q1 q2 : List UInt8), qrL (p ++ q1) = p.length → p.count 34 % 2 = 1 → bgn q2 [34] = false → qrL (p ++ q2) = p.length
  | [], q1, q2, _, h2, _ => by simp at h2
  | [c], q1, q2, h1, h2, h3 => by
    have hc : c = 34 := by
      apply Classical.byContradiction
      intro hn
      rw [List.count_cons_of_ne (by simpa using hn)] at h2
      simp at h2
    subst hc
    cases q2 with
    | nil => rfl
    | cons d t =>
      have hd : ¬ d = 34 := by simpa [bgn] using h3
      simp [qrL, hd]
  | c :: d :: t, q1, q2, h1, h2, h3 => by
    simp only [List.cons_append, List.length_cons, qrL] at h1 ⊢
    by_cases hc : c = 34
    · subst hc
      by_cases hd : d = 34
      · subst hd
        rw [if_pos rfl, if_pos rfl] at h1 ⊢
        rw [List.count_cons_self, List.count_cons_self] at h2
        have := qr_ext t q1 q2 (by omega) (by omega) h3
        omega
      · rw [if_pos rfl, if_neg hd] at h1; omega
    · rw [if_neg hc] at h1 ⊢
      rw [List.count_cons_of_ne (by simpa using hc)] at h2
      have := qr_ext (d :: t) q1 q2 (by simp only [List.cons_append, List.length_cons]; omega) h2 h3
      simp only [List.cons_append, List.length_cons] at this
      omega
theorem idx_appL (p q : List UInt8) (c : UInt8) (h : c ∈ p) : Lib.indexByte (p ++ q) c = Lib.indexByte p c := by
  induction p with
  | nil => simp at h
  | cons a r ih =>
    by_cases ha : a = c
    · subst ha; simp [Lib.indexByte]
    · have hr : c ∈ r := by
        rcases List.mem_cons.1 h with e | e
        · exact absurd e.symm ha
        · exact e
      have e := ih hr
      simp [Lib.indexByte, ha, e]
theorem named_has (s : ByteArray) (h : Vv.namedOk s = true) : (33 : UInt8) ∈ s.data.toList := by
  unfold Vv.namedOk Vv.namedC at h
  have key : ∀ k : Int, (k = 1 ∨ k = 2 ∨ k = 3 ∨ k = 4 ∨ k = 5 ∨ k = 6 ∨ k = 7 ∨ k = 8) → (33 : UInt8) ∈ (Vv.nameB k).data.toList := by
    rintro k (rfl | rfl | rfl | rfl | rfl | rfl | rfl | rfl) <;> decide +kernel
  simp only [decide_eq_true_eq] at h
  repeat' split at h
  all_goals first | (rename_i hs; rw [← hs]; exact key _ (by decide)) | (rename_i hs; exact absurd rfl h) | (exact absurd rfl h)
theorem fr_ext (p q1 q2 : List UInt8) (h : frL (p ++ q1) = p.length) (hm : (33 : UInt8) ∈ p) : frL (p ++ q2) = p.length := by
  unfold frL at h ⊢
  rw [idx_appL p q1 33 hm] at h
  rw [idx_appL p q2 33 hm]
  have h0 := (idx_mem 33 p).2 hm
  rw [if_pos h0] at h ⊢
  exact h
theorem bgn_app {p q : List UInt8} (hp : p ≠ []) (cs : List UInt8) : bgn (p ++ q) cs = bgn p cs := by
  cases p with
  | nil => exact absurd rfl hp
  | cons a r => rfl
theorem wr_ext (p q1 q2 : List UInt8) (hx : NX q1 q2) (h : wrL (p ++ q1) = p.length) : wrL (p ++ q2) = p.length := by
  have hk := runL_le (p ++ q1) WD
  unfold wrL at h
  by_cases hlt : runL (p ++ q1) WD < p.length
  · have hk2 := run_in p q1 WD hlt q2
    unfold wrL
    rw [hk2]
    revert h hlt
    generalize runL (p ++ q1) WD = k
    intro h hlt
    rw [List.take_append_of_le_length (by omega), List.drop_append_of_le_length (by omega)] at h
    rw [List.take_append_of_le_length (by omega), List.drop_append_of_le_length (by omega)]
    have hd : p.drop k ≠ [] := fun e => by have := congrArg List.length e; simp at this; omega
    rw [bgn_app hd] at h ⊢
    by_cases hc : (meant (p.take k) && bgn (p.drop k) [58]) = true
    · rw [if_pos hc] at h ⊢
      rw [List.drop_append_of_le_length (by omega)] at h ⊢
      have hl : (p.drop (k + 1)).length = p.length - (k + 1) := List.length_drop ..
      have h2 := (run_iff (p.drop (k + 1)) q1 WD).1 (by omega)
      have h3 := (run_iff (p.drop (k + 1)) q2 WD).2 ⟨h2.1, hx.fol (by decide) h2.2⟩
      omega
    · rw [if_neg hc] at h; omega
  · have hke : runL (p ++ q1) WD = p.length := by
      split at h
      · omega
      · exact h
    have h2 := (run_iff p q1 WD).1 hke
    have hk2 := (run_iff p q2 WD).2 ⟨h2.1, hx.fol (by decide) h2.2⟩
    rw [hke] at h
    unfold wrL
    rw [hk2]
    rw [List.take_left', List.drop_left'] at h ⊢
    all_goals try rfl
    by_cases hc : (meant p && bgn q1 [58]) = true
    · rw [if_pos hc] at h; omega
    · have hc2 : ¬ (meant p && bgn q2 [58]) = true := by
        intro e
        simp only [Bool.and_eq_true] at e hc
        apply hc
        refine ⟨e.1, ?_⟩
        rcases hx with rfl | ⟨t, rfl⟩ | ⟨c, t1, t2, rfl, rfl⟩
        · simp [bgn] at e
        · simp [bgn] at e
        · exact e.2
      rw [if_neg hc2]
theorem two_ext (c : UInt8) (q1 q2 : List UInt8) (hx : NX q1 q2) (h : twoL (c :: q1) = false) : twoL (c :: q2) = false := by
  rcases hx with rfl | ⟨t, rfl⟩ | ⟨d, t1, t2, rfl, rfl⟩
  · simp [twoL, List.isPrefixOf]
  · simp [twoL, List.isPrefixOf]
  · simpa [twoL, List.isPrefixOf] using h
theorem reach_ext (p q1 q2 : List UInt8) (hp : p ≠ []) (hx : NX q1 q2) (h : reachL (p ++ q1) = p.length) (hk : (rdT (bs p)).kind ≠ 8) : reachL (p ++ q2) = p.length := by
  have hne : ∀ q, p ++ q ≠ [] := fun q e => hp (List.append_eq_nil_iff.1 e).1
  unfold rdT at hk
  rw [bs_data, if_neg hp] at hk
  unfold reachL at h ⊢
  rw [if_neg (hne _)] at h ⊢
  rw [bgn_app hp, bgn_app hp, bgn_app hp, bgn_app hp] at h ⊢
  by_cases b1 : bgn p DG = true
  · rw [if_pos b1] at h ⊢
    have h2 := (run_iff p q1 NB).1 h
    exact (run_iff p q2 NB).2 ⟨h2.1, hx.fol (by decide) h2.2⟩
  · rw [if_neg b1] at h hk ⊢
    by_cases b2 : bgn p [34] = true
    · rw [if_pos b2] at h hk ⊢
      cases p with
      | nil => exact absurd rfl hp
      | cons c r =>
        have hc : c = 34 := by simpa [bgn] using b2
        subst hc
        simp only [List.cons_append, List.drop_succ_cons, List.drop_zero, List.length_cons] at h ⊢
        have hcnt : Lib.countByte (34 :: r) 34 % 2 = 0 := by
          apply Classical.byContradiction
          intro hn
          apply hk
          unfold rdQ
          rw [if_neg hn]; rfl
        unfold Lib.countByte at hcnt
        rw [List.count_cons_self] at hcnt
        have := qr_ext r q1 q2 (by omega) (by omega) (hx.fol_q0 (qr_end r q1 (by omega) (by omega)))
        omega
    · rw [if_neg b2] at h hk ⊢
      by_cases b3 : bgn p [35] = true
      · rw [if_pos b3] at h hk ⊢
        refine fr_ext p q1 q2 h ?_
        have hn : Vv.namedOk (bs p) = true := by
          cases hn : Vv.namedOk (bs p)
          · exact absurd (by unfold rdF; rw [hn]; rfl) hk
          · rfl
        have := named_has _ hn
        rwa [bs_data] at this
      · rw [if_neg b3] at h hk ⊢
        by_cases b4 : bgn p LT = true
        · rw [if_pos b4] at h ⊢
          exact wr_ext p q1 q2 hx h
        · rw [if_neg b4] at h ⊢
          cases p with
          | nil => exact absurd rfl hp
          | cons c r =>
            by_cases b5 : twoL (c :: r ++ q1) = true
            · rw [if_pos b5] at h
              simp only [List.length_cons] at h
              match r, h with
              | [d], _ =>
                have e : twoL ([c, d] ++ q2) = true := by simpa [twoL, List.isPrefixOf] using b5
                rw [if_pos e]; rfl
            · rw [if_neg b5] at h
              simp only [List.length_cons] at h
              have hr : r = [] := List.length_eq_zero_iff.1 (by omega)
              subst hr
              have e := two_ext c q1 q2 hx (by simpa using b5)
              rw [if_neg (by simpa using e)]; rfl
end Go.Proofs.YtaamphdihmghhaaGreatDoor
