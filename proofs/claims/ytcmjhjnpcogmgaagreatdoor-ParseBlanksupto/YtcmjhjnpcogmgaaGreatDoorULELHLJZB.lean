/- How far a token reaches hangs on its own bytes and on the first one behind it alone, in pl -/
import Derived.Test.YtcmjhjnpcogmgaaGreatDoorUAuto
import Derived.Test.YtcmjhjnpcogmgaaGreatDoorULALKLG
import Derived.Test.YtcmjhjnpcogmgaaGreatDoorUZIZM
set_option linter.all false
set_option maxRecDepth 100000
set_option maxHeartbeats 4000000
namespace Go.Proofs.YtcmjhjnpcogmgaaGreatDoor
open Go.RowKit
def NX (q1 q2 : List UInt8) : Prop := q2 = [] ∨ (∃ t, q2 = 32 :: t) ∨ (∃ c t1 t2, q1 = c :: t1 ∧ q2 = c :: t2)
theorem NX.fol {q1 q2 cs : List UInt8} (h : NX q1 q2) (hc : cs.contains 32 = false) (h1 : bgn q1 cs = false) : bgn q2 cs = false := by
 rcases h with rfl | ⟨t, rfl⟩ | ⟨c, t1, t2, rfl, rfl⟩
 ·rfl
 ·exact hc
 ·exact h1
theorem run_iff (p q cs : List UInt8) : runL (p ++ q) cs = p.length ↔ ((∀ c ∈ p, cs.contains c = true) ∧ bgn q cs = false) := by
 induction p with
 | nil =>
  cases q with
  | nil => simp [runL, bgn]
  | cons c t =>
   simp only [List.nil_append, List.length_nil, bgn, runL]
   rw [List.takeWhile_cons]
   cases hc : cs.contains c
   ·exact ⟨fun _ => ⟨fun d hd => by simp at hd, rfl⟩, fun _ => rfl⟩
   ·constructor
    ·intro h; simp at h
    ·intro h; exact absurd h.2 (by simp)
 | cons a r ih =>
  simp only [List.cons_append, List.length_cons, runL] at ih ⊢
  cases ha : cs.contains a
  ·rw [List.takeWhile_cons, ha]
   constructor
   ·intro h; simp at h
   ·intro h; have := h.1 a (by simp); rw [ha] at this; simp at this
  ·rw [List.takeWhile_cons, ha]
   simp only [if_true, List.length_cons, Nat.add_right_cancel_iff, List.mem_cons, forall_eq_or_imp, ha, true_and]
   exact ih
theorem run_in (p q cs : List UInt8) (h : runL (p ++ q) cs < p.length) : ∀ q2, runL (p ++ q2) cs = runL (p ++ q) cs := by
 induction p with
 | nil => simp at h
 | cons a r ih =>
  intro q2
  simp only [List.cons_append, List.length_cons, runL] at ih h ⊢
  cases ha : cs.contains a
  ·rw [List.takeWhile_cons, List.takeWhile_cons, ha]; rfl
  ·rw [List.takeWhile_cons, ha] at h
   rw [List.takeWhile_cons, List.takeWhile_cons, ha]
   simp only [if_true, List.length_cons, Nat.add_right_cancel_iff] at h ⊢
   exact ih zq17 q2
theorem NX.fol_q0 {q1 q2 : List UInt8} (h : NX q1 q2) (h1 : bgn q1 [34] = false) : bgn q2 [34] = false := h.fol zq16 h1
theorem qr_end : ∀ (p q1 : List UInt8), qrL (p ++ q1) = p.length → p.count 34 % 2 = 1 → bgn q1 [34] = false
 | [], q1, _, h2 => by simp at h2
 | [c], q1, h1, h2 => by
  have hc : c = 34 := by
   apply Classical.byContradiction
   intro hn
   rw [List.count_cons_of_ne (by simpa using hn)] at h2
   simp at h2
  subst hc
  cases q1 with
  | nil => rfl
  | cons d t =>
   by_cases hd : d = 34
   ·subst hd
    have h1' : (if (34 : UInt8) = 34 then (if (34 : UInt8) = 34 then 2 + qrL t else 1) else 1 + qrL (34 :: t)) = 1 := h1
    simp at h1'
    omega
   ·simpa [bgn] using hd
 | c :: d :: t, q1, h1, h2 => by
  simp only [List.cons_append, List.length_cons, qrL] at h1
  by_cases hc : c = 34
  ·subst hc
   by_cases hd : d = 34
   ·subst hd
    rw [if_pos rfl, if_pos rfl] at h1
    rw [List.count_cons_self, List.count_cons_self] at h2
    exact qr_end t q1 zq17 zq17
   ·rw [if_pos rfl, if_neg hd] at h1; omega
  ·rw [if_neg hc] at h1
   rw [List.count_cons_of_ne (by simpa using hc)] at h2
   exact qr_end (d :: t) q1 (by simp only [List.cons_append, List.length_cons]; omega) h2
theorem qr_ext : ∀ (p q1 q2 : List UInt8), qrL (p ++ q1) = p.length → p.count 34 % 2 = 1 → bgn q2 [34] = false → qrL (p ++ q2) = p.length
 | [], q1, q2, _, h2, _ => by simp at h2
 | [c], q1, q2, h1, h2, h3 => by
  have hc : c = 34 := by
   apply Classical.byContradiction
   intro hn
   rw [List.count_cons_of_ne (by simpa using hn)] at h2
   simp at h2
  subst hc
  cases q2 with
  | nil => rfl
  | cons d t =>
   have hd : ¬ d = 34 := by simpa [bgn] using h3
   simp [qrL, hd]
 | c :: d :: t, q1, q2, h1, h2, h3 => by
  simp only [List.cons_append, List.length_cons, qrL] at h1 ⊢
  by_cases hc : c = 34
  ·subst hc
   by_cases hd : d = 34
   ·subst hd
    rw [if_pos rfl, if_pos rfl] at h1 ⊢
    rw [List.count_cons_self, List.count_cons_self] at h2
    have := qr_ext t q1 q2 zq17 zq17 h3
    omega
   ·rw [if_pos rfl, if_neg hd] at h1; omega
  ·rw [if_neg hc] at h1 ⊢
   rw [List.count_cons_of_ne (by simpa using hc)] at h2
   have := qr_ext (d :: t) q1 q2 (by simp only [List.cons_append, List.length_cons]; omega) h2 h3
   simp only [List.cons_append, List.length_cons] at this
   omega
theorem idx_appL (p q : List UInt8) (c : UInt8) (h : c ∈ p) : Lib.indexByte (p ++ q) c = Lib.indexByte p c := by
 induction p with
 | nil => simp at h
 | cons a r ih =>
  by_cases ha : a = c
  ·subst ha; simp [Lib.indexByte]
  ·have hr : c ∈ r := by
    rcases List.mem_cons.1 h with e | e
    ·exact absurd e.symm ha
    ·exact e
   have e := ih hr
   simp [Lib.indexByte, ha, e]
theorem named_has (s : ByteArray) (h : Vv.namedOk s = true) : (33 : UInt8) ∈ s.data.toList := by
 unfold Vv.namedOk Vv.namedC at h
 have key : ∀ k : Int, (k = 1 ∨ k = 2 ∨ k = 3 ∨ k = 4 ∨ k = 5 ∨ k = 6 ∨ k = 7 ∨ k = 8) → (33 : UInt8) ∈ (Vv.nameB k).data.toList := by
  rintro k (rfl | rfl | rfl | rfl | rfl | rfl | rfl | rfl) <;> decide +kernel
 simp only [decide_eq_true_eq] at h
 repeat' split at h
 all_goals first | (rename_i hs; rw [← hs]; exact key _ zq16) | (rename_i hs; exact absurd rfl h) | (exact absurd rfl h)
theorem fr_ext (p q1 q2 : List UInt8) (h : frL (p ++ q1) = p.length) (hm : (33 : UInt8) ∈ p) : frL (p ++ q2) = p.length := by
 unfold frL at h ⊢
 rw [idx_appL p q1 33 hm] at h
 rw [idx_appL p q2 33 hm]
 have h0 := (idx_mem 33 p).2 hm
 rw [if_pos h0] at h ⊢
 exact h
theorem bgn_app {p q : List UInt8} (hp : p ≠ []) (cs : List UInt8) : bgn (p ++ q) cs = bgn p cs := by
 cases p with
 | nil => exact absurd rfl hp
 | cons a r => rfl
theorem wr_ext (p q1 q2 : List UInt8) (hx : NX q1 q2) (h : wrL (p ++ q1) = p.length) : wrL (p ++ q2) = p.length := by
 have hk := runL_le (p ++ q1) WD
 unfold wrL at h
 by_cases hlt : runL (p ++ q1) WD < p.length
 ·have hk2 := run_in p q1 WD hlt q2
  unfold wrL
  rw [hk2]
  revert h hlt
  generalize runL (p ++ q1) WD = k
  intro h hlt
  rw [List.take_append_of_le_length zq17, List.drop_append_of_le_length zq17] at h
  rw [List.take_append_of_le_length zq17, List.drop_append_of_le_length zq17]
  have hd : p.drop k ≠ [] := fun e => by have := congrArg List.length e; simp at this; omega
  rw [bgn_app hd] at h ⊢
  by_cases hc : (meant (p.take k) && bgn (p.drop k) [58]) = true
  ·rw [if_pos hc] at h ⊢
   rw [List.drop_append_of_le_length zq17] at h ⊢
   have hl : (p.drop (k + 1)).length = p.length - (k + 1) := List.length_drop ..
   have h2 := (run_iff (p.drop (k + 1)) q1 WD).1 zq17
   have h3 := (run_iff (p.drop (k + 1)) q2 WD).2 ⟨h2.1, hx.fol zq16 h2.2⟩
   omega
  ·rw [if_neg hc] at h; omega
 ·have hke : runL (p ++ q1) WD = p.length := by
   split at h
   ·omega
   ·exact h
  have h2 := (run_iff p q1 WD).1 hke
  have hk2 := (run_iff p q2 WD).2 ⟨h2.1, hx.fol zq16 h2.2⟩
  rw [hke] at h
  unfold wrL
  rw [hk2]
  rw [List.take_left', List.drop_left'] at h ⊢
  all_goals try rfl
  by_cases hc : (meant p && bgn q1 [58]) = true
  ·rw [if_pos hc] at h; omega
  ·have hc2 : ¬ (meant p && bgn q2 [58]) = true := by
    intro e
    simp only [Bool.and_eq_true] at e hc
    apply hc
    refine ⟨e.1, ?_⟩
    rcases hx with rfl | ⟨t, rfl⟩ | ⟨c, t1, t2, rfl, rfl⟩
    ·simp [bgn] at e
    ·simp [bgn] at e
    ·exact e.2
   rw [if_neg hc2]
theorem two_ext (c : UInt8) (q1 q2 : List UInt8) (hx : NX q1 q2) (h : twoL (c :: q1) = false) : twoL (c :: q2) = false := by
 rcases hx with rfl | ⟨t, rfl⟩ | ⟨d, t1, t2, rfl, rfl⟩
 ·simp [twoL, List.isPrefixOf]
 ·simp [twoL, List.isPrefixOf]
 ·simpa [twoL, List.isPrefixOf] using h
theorem reach_ext (p q1 q2 : List UInt8) (hp : p ≠ []) (hx : NX q1 q2) (h : reachL (p ++ q1) = p.length) (hk : (rdT (bs p)).kind ≠ 8) : reachL (p ++ q2) = p.length := by
 have hne : ∀ q, p ++ q ≠ [] := fun q e => hp (List.append_eq_nil_iff.1 e).1
 unfold rdT at hk
 rw [bs_data, if_neg hp] at hk
 unfold reachL at h ⊢
 rw [if_neg (hne _)] at h ⊢
 rw [bgn_app hp, bgn_app hp, bgn_app hp, bgn_app hp] at h ⊢
 by_cases b1 : bgn p DG = true
 ·rw [if_pos b1] at h ⊢
  have h2 := (run_iff p q1 NB).1 h
  exact (run_iff p q2 NB).2 ⟨h2.1, hx.fol zq16 h2.2⟩
 ·rw [if_neg b1] at h hk ⊢
  by_cases b2 : bgn p [34] = true
  ·rw [if_pos b2] at h hk ⊢
   cases p with
   | nil => exact absurd rfl hp
   | cons c r =>
    have hc : c = 34 := by simpa [bgn] using b2
    subst hc
    simp only [List.cons_append, List.drop_succ_cons, List.drop_zero, List.length_cons] at h ⊢
    have hcnt : Lib.countByte (34 :: r) 34 % 2 = 0 := by
     apply Classical.byContradiction
     intro hn
     apply hk
     unfold rdQ
     rw [if_neg hn]; rfl
    unfold Lib.countByte at hcnt
    rw [List.count_cons_self] at hcnt
    have := qr_ext r q1 q2 zq17 zq17 (hx.fol_q0 (qr_end r q1 zq17 zq17))
    omega
  ·rw [if_neg b2] at h hk ⊢
   by_cases b3 : bgn p [35] = true
   ·rw [if_pos b3] at h hk ⊢
    refine fr_ext p q1 q2 h ?_
    have hn : Vv.namedOk (bs p) = true := by
     cases hn : Vv.namedOk (bs p)
     ·exact absurd (by unfold rdF; rw [hn]; rfl) hk
     ·rfl
    have := named_has _ hn
    rwa [bs_data] at this
   ·rw [if_neg b3] at h hk ⊢
    by_cases b4 : bgn p LT = true
    ·rw [if_pos b4] at h ⊢
     exact wr_ext p q1 q2 hx h
    ·rw [if_neg b4] at h ⊢
     cases p with
     | nil => exact absurd rfl hp
     | cons c r =>
      by_cases b5 : twoL (c :: r ++ q1) = true
      ·rw [if_pos b5] at h
       simp only [List.length_cons] at h
       match r, h with
       | [d], _ =>
        have e : twoL ([c, d] ++ q2) = true := by simpa [twoL, List.isPrefixOf] using b5
        rw [if_pos e]; rfl
      ·rw [if_neg b5] at h
       simp only [List.length_cons] at h
       have hr : r = [] := List.length_eq_zero_iff.1 zq17
       subst hr
       have e := two_ext c q1 q2 hx (by simpa using b5)
       rw [if_neg (by simpa using e)]; rfl
end Go.Proofs.YtcmjhjnpcogmgaaGreatDoor
namespace Go.Proofs.YtcmjhjnpcogmgaaGreatDoor
open Go.RowKit
theorem dropB_take (l : List UInt8) : l = l.takeWhile ([32].contains ·) ++ dropB l := (List.takeWhile_append_dropWhile).symm
theorem dropB_head (l : List UInt8) : bgn (dropB l) [32] = false := by
 unfold dropB
 induction l with
 | nil => rfl
 | cons c t ih =>
  cases hc : [32].contains c
  ·rw [List.dropWhile_cons, hc]; exact hc
  ·rw [List.dropWhile_cons, hc]; exact ih
theorem dropB_id {l : List UInt8} (h : bgn l [32] = false) : dropB l = l := by
 cases l with
 | nil => rfl
 | cons c t => unfold dropB; rw [List.dropWhile_cons]; have h' : [32].contains c = false := h; rw [h']; rfl
theorem dropB_app (b l : List UInt8) (hb : ∀ c ∈ b, [32].contains c = true) (h : bgn l [32] = false) : dropB (b ++ l) = l := by
 induction b with
 | nil => exact dropB_id h
 | cons c t ih =>
  unfold dropB at ih ⊢
  rw [List.cons_append, List.dropWhile_cons, hb c (by simp)]
  exact ih (fun d hd => hb d (by simp [hd]))
theorem take_blank (l : List UInt8) : ∀ c ∈ l.takeWhile ([32].contains ·), [32].contains c = true := fun c hc => by
 have h := List.all_takeWhile (p := ([32].contains ·)) (l := l)
 exact List.all_eq_true.1 h c hc
end Go.Proofs.YtcmjhjnpcogmgaaGreatDoor
namespace Go.Proofs.YtcmjhjnpcogmgaaGreatDoor
open Go.RowKit
theorem pcs_fuel : ∀ (f : Nat) (rest : List UInt8) (n : Nat), rest.length < f → pcs (f + 1) rest n = pcs f rest n
 | 0, rest, n, h => absurd h zq17
 | f + 1, rest, n, h => by
  rw [pcs_succ (f + 1) rest n, pcs_succ f rest n]
  have hd := dropB_le rest
  by_cases hr : dropB rest = []
  ·rw [if_pos ((take_nil_iff _).2 hr), if_pos ((take_nil_iff _).2 hr)]
  ·have hp := reachL_pos hr
   have hl := len_pos hr
   rw [if_neg (fun e => hr ((take_nil_iff _).1 e)), if_neg (fun e => hr ((take_nil_iff _).1 e)), pcs_fuel f _ n (by rw [List.length_drop]; omega)]
def incP (y : Nat × List UInt8) : Nat × List UInt8 := (y.1 + 1, y.2)
theorem pcs_n : ∀ (f : Nat) (rest : List UInt8) (n : Nat), rest.length ≤ n → pcs f rest (n + 1) = (pcs f rest n).map incP
 | 0, rest, n, h => rfl
 | f + 1, rest, n, h => by
  rw [pcs_succ, pcs_succ, List.map_cons]
  have hd := dropB_le rest
  have e : (n + 1 - (dropB rest).length, (dropB rest).take (reachL (dropB rest))) = incP (n - (dropB rest).length, (dropB rest).take (reachL (dropB rest))) := by
   unfold incP; congr 1; dsimp only; omega
  rw [e]
  congr 1
  split
  ·rfl
  ·exact pcs_n f _ n (by rw [List.length_drop]; omega)
def insB (l : List UInt8) (j : Nat) : List UInt8 := l.take j ++ 32 :: l.drop j
theorem insB_app (a l : List UInt8) (j : Nat) : insB (a ++ l) (a.length + j) = a ++ insB l j := by
 unfold insB
 rw [List.take_append, List.drop_append, List.take_of_length_le zq17, List.drop_of_length_le zq17]
 simp
theorem insB_NX (l : List UInt8) (j : Nat) : NX l (insB l j) := by
 cases j with
 | zero => exact .inr (.inl ⟨l, by unfold insB; simp⟩)
 | succ j =>
  cases l with
  | nil => exact .inr (.inl ⟨[], rfl⟩)
  | cons c t => exact .inr (.inr ⟨c, t, insB t j, rfl, by unfold insB; simp⟩)
def incT (t : Tk) : Tk := ⟨t.kind, t.at' + 1, t.num, t.str, t.c0, t.c1, t.r0, t.r1, t.r2, t.r3, t.code⟩
def bump (k : Nat) (l : List Tk) : List Tk := l.take k ++ (l.drop k).map incT
end Go.Proofs.YtcmjhjnpcogmgaaGreatDoor
namespace Go.Proofs.YtcmjhjnpcogmgaaGreatDoor
open Go.RowKit
theorem pcs_ins2 : ∀ (f : Nat) (rest : List UInt8) (n k : Nat) (x : Nat × List UInt8), rest.length < f → rest.length ≤ n → (∀ y ∈ (pcs f rest n).take k, (rdT (bs y.2)).kind ≠ 8) → (pcs f rest n)[k]? = some x →
  n - rest.length ≤ x.1 ∧ x.1 ≤ n ∧ pcs (f + 1) (insB rest (x.1 - (n - rest.length))) (n + 1) = (pcs f rest n).take k ++ ((pcs f rest n).drop k).map incP
 | 0, rest, n, k, x, h, _, _, _ => absurd h zq17
 | f + 1, rest, n, k, x, h, hn, hw, hx => by
  have hd := dropB_le rest
  have hsp := dropB_take rest
  have hspl := congrArg List.length hsp
  rw [List.length_append] at hspl
  have hb := take_blank rest
  have hh := dropB_head rest
  rw [pcs_succ f rest n] at hx hw ⊢
  revert hsp hspl hb hh hx hw hd
  generalize dropB rest = r
  generalize rest.takeWhile ([32].contains ·) = b
  intro hw hx hd hsp hspl hb hh
  cases k with
  | zero =>
   simp only [List.getElem?_cons_zero, Option.some.injEq] at hx
   subst hx
   dsimp only
   refine ⟨zq17, zq17, ?_⟩
   have e : insB rest (n - r.length - (n - rest.length)) = b ++ 32 :: r := by
    rw [hsp]
    have e1 : n - r.length - (n - (b ++ r).length) = b.length := by rw [List.length_append]; omega
    rw [e1]; unfold insB; rw [List.take_left, List.drop_left]
   have e2 : dropB (b ++ 32 :: r) = r := by
    have := dropB_app (b ++ [32]) r (by intro c hc; rcases List.mem_append.1 hc with h1 | h1; exact hb c h1; simp at h1; subst h1; rfl) hh
    simpa using this
   rw [e, pcs_succ, e2]
   simp only [List.take_zero, List.nil_append, List.drop_zero, List.map_cons]
   have e3 : (n + 1 - r.length, r.take (reachL r)) = incP (n - r.length, r.take (reachL r)) := by unfold incP; congr 1; dsimp only; omega
   rw [e3]
   congr 1
   by_cases hr : r = []
   ·rw [if_pos ((take_nil_iff _).2 hr), if_pos ((take_nil_iff _).2 hr)]; rfl
   ·have hp := reachL_pos hr
    have hl := len_pos hr
    rw [if_neg (fun e => hr ((take_nil_iff _).1 e)), if_neg (fun e => hr ((take_nil_iff _).1 e)), pcs_fuel f _ _ (by rw [List.length_drop]; omega), pcs_n f _ n (by rw [List.length_drop]; omega)]
  | succ k =>
   have hr : r ≠ [] := by
    intro e
    rw [if_pos ((take_nil_iff _).2 e)] at hx
    simp at hx
   have hp := reachL_pos hr
   have hl := len_pos hr
   have hle := reachL_le r
   have hpn : r.take (reachL r) ≠ [] := fun e => hr ((take_nil_iff _).1 e)
   rw [if_neg hpn] at hx hw ⊢
   simp only [List.getElem?_cons_succ] at hx
   have hql : (r.drop (reachL r)).length = r.length - reachL r := List.length_drop ..
   obtain ⟨i1, i2, i3⟩ := pcs_ins2 f (r.drop (reachL r)) n k x zq17 zq17 (fun y hy => hw y (by rw [List.take_succ_cons]; exact List.mem_cons_of_mem _ hy)) hx
   refine ⟨zq17, i2, ?_⟩
   have hpl : (r.take (reachL r)).length = reachL r := by rw [List.length_take]; omega
   have hk8 := hw (n - r.length, r.take (reachL r)) (by rw [List.take_succ_cons]; exact List.mem_cons_self)
   dsimp only at hk8
   have hrr : r = r.take (reachL r) ++ r.drop (reachL r) := (List.take_append_drop _ _).symm
   obtain ⟨j, hj⟩ : ∃ j, x.1 - (n - (r.drop (reachL r)).length) = j := ⟨_, rfl⟩
   rw [hj] at i3
   have e1 : x.1 - (n - rest.length) = b.length + ((r.take (reachL r)).length + j) := by omega
   have e2 : insB rest (b.length + ((r.take (reachL r)).length + j)) = b ++ (r.take (reachL r) ++ insB (r.drop (reachL r)) j) := by
    have h1 := insB_app b r ((r.take (reachL r)).length + j)
    rw [← hsp] at h1
    rw [h1]
    have h2 := insB_app (r.take (reachL r)) (r.drop (reachL r)) j
    rw [List.take_append_drop] at h2
    rw [h2]
   have hreach : reachL (r.take (reachL r) ++ insB (r.drop (reachL r)) j) = (r.take (reachL r)).length :=
    reach_ext _ (r.drop (reachL r)) _ hpn (insB_NX _ _) (by rw [List.take_append_drop, hpl]) hk8
   have e3 : dropB (b ++ (r.take (reachL r) ++ insB (r.drop (reachL r)) j)) = r.take (reachL r) ++ insB (r.drop (reachL r)) j := by
    refine dropB_app b _ hb ?_
    rw [bgn_app hpn]
    rw [hrr, bgn_app hpn] at hh
    exact hh
   rw [e1, e2, pcs_succ, e3, hreach, List.take_left, List.drop_left, if_neg hpn, i3]
   have hil : (insB (r.drop (reachL r)) j).length = (r.drop (reachL r)).length + 1 := by
    unfold insB
    rw [List.length_append, List.length_cons, List.length_take, List.length_drop, List.length_drop]
    omega
   have e4 : n + 1 - (r.take (reachL r) ++ insB (r.drop (reachL r)) j).length = n - r.length := by
    rw [List.length_append, hil, hpl]; omega
   rw [e4]
   simp
theorem cutW_inc : ∀ l : List Tk, cutW (l.map incT) = (cutW l).map incT
 | [] => rfl
 | t :: r => by
  rw [List.map_cons, cutW, cutW, List.map_cons, cutW_inc r]
  show _ :: (if t.kind = 8 then _ else _) = _
  split <;> rfl
theorem cutW_take : ∀ (l : List Tk) (k : Nat), k < (cutW l).length → (∀ t ∈ l.take k, t.kind ≠ 8) ∧ cutW l = l.take k ++ cutW (l.drop k)
 | [], k, h => by simp [cutW] at h
 | t :: r, 0, h => ⟨fun u hu => by simp at hu, by simp⟩
 | t :: r, k + 1, h => by
  rw [cutW, List.length_cons] at h
  by_cases h8 : t.kind = 8
  ·rw [if_pos h8] at h; simp at h
  ·rw [if_neg h8] at h
   obtain ⟨h1, h2⟩ := cutW_take r k zq17
   refine ⟨fun u hu => ?_, ?_⟩
   ·rw [List.take_succ_cons, List.mem_cons] at hu
    rcases hu with rfl | hu
    ·exact h8
    ·exact h1 u hu
   ·rw [cutW, if_neg h8, h2]; rfl
theorem cutW_app : ∀ (l m : List Tk), (∀ t ∈ l, t.kind ≠ 8) → cutW (l ++ m) = l ++ cutW m
 | [], m, _ => rfl
 | t :: r, m, h => by
  rw [List.cons_append, cutW, if_neg (h t (by simp)), cutW_app r m (fun u hu => h u (by simp [hu]))]; rfl
theorem blanks_toks2 {s : ByteArray} {k a : Nat} {t : Tk} (hF : isF s = true) (ht : (toks s)[k]? = some t) (ha : t.at' = a) :
  1 ≤ a ∧ a ≤ s.size ∧ toks (s.extract 0 a ++ ⟨#[32]⟩ ++ s.extract a s.size) = bump k (toks s) := by
 have hkl := (List.getElem?_eq_some_iff.1 ht).1
 have h1 : 1 ≤ s.size := by
  rw [size_len]
  cases hl : s.data.toList with
  | nil => unfold isF at hF; rw [hl] at hF; simp at hF
  | cons c t => simp
 obtain ⟨rest, hrest⟩ : ∃ rest, s.data.toList = 61 :: rest := by
  cases hl : s.data.toList with
  | nil => rw [size_len, hl] at h1; simp at h1
  | cons c r =>
   refine ⟨r, ?_⟩
   unfold isF at hF; rw [hl] at hF
   have h61 : (61 : UInt8) = c := by simpa using hF.symm
   rw [← h61]
 have hsz : s.size = rest.length + 1 := by rw [size_len, hrest]; rfl
 have hP : pcsOf s = pcs (rest.length + 1) rest (rest.length + 1) := by unfold pcsOf; rw [hrest, hsz]; rfl
 have eT : toks s = cutW ((pcsOf s).map tkAt) := by unfold toks; rw [hF]; rfl
 have hkl' : k < (cutW ((pcsOf s).map tkAt)).length := by rw [← eT]; exact hkl
 obtain ⟨hk8, hcut⟩ := cutW_take _ _ hkl'
 have hlast : ∀ y ∈ (pcsOf s).take k, (rdT (bs y.2)).kind ≠ 8 := fun y hy => by
  have := hk8 (tkAt y) (by rw [← List.map_take]; exact List.mem_map_of_mem hy)
  exact this
 have hlk : k < (pcsOf s).length := by
  have h2 : ∀ l : List Tk, (cutW l).length ≤ l.length := by
   intro l
   induction l with
   | nil => exact Nat.le_refl _
   | cons u r ih => rw [cutW, List.length_cons, List.length_cons]; split <;> simp; omega
  have := h2 ((pcsOf s).map tkAt); rw [List.length_map] at this; omega
 have ht2 : ((pcsOf s).map tkAt)[k]? = some t := by
  have h3 := ht
  rw [eT, hcut, List.getElem?_append_right (by rw [List.length_take]; omega)] at h3
  have e : k - (((pcsOf s).map tkAt).take k).length = 0 := by rw [List.length_take, List.length_map]; omega
  rw [e] at h3
  cases hd : ((pcsOf s).map tkAt).drop k with
  | nil => rw [hd] at h3; cases h3
  | cons u r =>
   rw [hd] at h3
   have h5 : (u :: (if u.kind = 8 then [] else cutW r))[0]? = some t := h3
   have h6 : u = t := by simpa using h5
   have h4 : ((pcsOf s).map tkAt)[k]? = (((pcsOf s).map tkAt).drop k)[0]? := by simp
   rw [h4, hd, h6]; rfl
 rw [List.getElem?_map] at ht2
 cases hx : (pcsOf s)[k]? with
 | none => rw [hx] at ht2; simp at ht2
 | some x =>
  rw [hx] at ht2
  simp only [Option.map_some, Option.some.injEq] at ht2
  have hxa : x.1 = a := by
   have : ((x.1 : Nat) : Int) = (a : Int) := by rw [← ha, ← ht2]; rfl
   omega
  rw [hP] at hx hlast
  obtain ⟨i1, i2, i3⟩ := pcs_ins2 (rest.length + 1) rest (rest.length + 1) k x zq17 zq17 hlast hx
  rw [hxa] at i1 i2 i3
  refine ⟨zq17, zq17, ?_⟩
  have e0 : rest.length + 1 - rest.length = 1 := by omega
  rw [e0] at i1 i3
  obtain ⟨j, hj⟩ : ∃ j, a = j + 1 := ⟨a - 1, zq17⟩
  have hl2 : (s.extract 0 a ++ ⟨#[32]⟩ ++ s.extract a s.size : ByteArray).data.toList = 61 :: insB rest j := by
   rw [ByteArray.data_append, ByteArray.data_append, Array.toList_append, Array.toList_append, ext_to, ext_from, hrest, hj]
   unfold insB
   simp
  obtain ⟨S, hS⟩ : ∃ S, (s.extract 0 a ++ ⟨#[32]⟩ ++ s.extract a s.size : ByteArray) = S := ⟨_, rfl⟩
  rw [hS] at hl2 ⊢
  have hil : (insB rest j).length = rest.length + 1 := by
   unfold insB
   rw [List.length_append, List.length_cons, List.length_take, List.length_drop]; omega
  have hSs : S.size = rest.length + 1 + 1 := by rw [size_len, hl2, List.length_cons, hil]
  have hP2 : pcsOf S = pcs (rest.length + 1 + 1) (insB rest j) (rest.length + 1 + 1) := by unfold pcsOf; rw [hl2, hSs]; rfl
  have hj2 : a - 1 = j := by omega
  rw [hj2] at i3
  have hF2 : isF S = true := by unfold isF; rw [hl2]; rfl
  unfold toks
  rw [hF2]
  simp only [if_true]
  have e5 : (pcsOf S).map tkAt = ((pcsOf s).map tkAt).take k ++ (((pcsOf s).map tkAt).drop k).map incT := by
   rw [hP2, i3, hP, List.map_append, List.map_take, List.map_map, ← List.map_drop, List.map_map]
   congr 1
  rw [e5, cutW_app _ _ hk8, cutW_inc]
  have e6 : (if isF s = true then cutW ((pcsOf s).map tkAt) else [tk0 8]) = cutW ((pcsOf s).map tkAt) := by rw [hF]; rfl
  first | rw [e6] | (rw [hF]; simp only [if_true]) | skip
  unfold bump
  rw [hcut]
  have hlt : (((pcsOf s).map tkAt).take k).length = k := by rw [List.length_take, List.length_map]; omega
  generalize ((pcsOf s).map tkAt).take k = X at hlt ⊢
  generalize cutW (((pcsOf s).map tkAt).drop k) = Y
  subst hlt
  rw [List.take_left, List.drop_left]
def mapT (f : Int → Int) (t : Tk) : Tk := ⟨t.kind, f t.at', t.num, t.str, t.c0, t.c1, t.r0, t.r1, t.r2, t.r3, t.code⟩
def mapW (f : Int → Int) (x : Wt) : Wt := ⟨x.op, f x.at'⟩
def mapL (f : Int → Int) (l : Lv) : Lv := ⟨mapT f l.nm, l.rl, l.out.map (mapW f)⟩
def mapS (f : Int → Int) (s : St) : St := ⟨s.pl, mapT f s.nm, s.ns, s.op.map (mapL f), s.cur.map (mapW f)⟩
def mapR (f : Int → Int) (r : Rs) : Rs := match r with
 | .ok s => .ok (mapS f s)
 | .error e => .error (e.1, f e.2)
theorem map_then {f : Int → Int} {r : Rs} {g g' : St → Rs} (h : ∀ u, g' (mapS f u) = mapR f (g u)) : thenS (mapR f r) g' = mapR f (thenS r g) := by
 cases r with
 | ok u => exact h u
 | error e => rfl
theorem map_add (f : Int → Int) (s : St) (n : Rf.Nd) (a : Int) : addS (mapS f s) n (f a) = mapR f (addS s n a) := by
 unfold addS
 show (if s.ns.length = 1024 then _ else _) = _
 split <;> rfl
theorem map_open (f : Int → Int) (s : St) (a : Int) (nm nm' : Tk) (hn : nm' = mapT f nm) : openS (mapS f s) (f a) nm' = mapR f (openS s a nm) := by
 subst hn
 unfold openS
 have e : (mapS f s).op.length = s.op.length := by simp [mapS]
 rw [e]
 split <;> rfl
theorem map_next (f : Int → Int) (s : St) (a : Int) : nextS (mapS f s) (f a) = mapR f (nextS s a) := by
 unfold nextS
 cases ho : s.op with
 | nil =>
  have e : (mapS f s).op = [] := by simp [mapS, ho]
  rw [e]; rfl
 | cons l r =>
  have e : (mapS f s).op = mapL f l :: r.map (mapL f) := by simp [mapS, ho]
  rw [e]
  show (if l.nm.kind = 3 ∧ l.rl.length ≠ 15 then _ else _) = _
  dsimp only
  split <;> rfl
theorem map_close {T : ByteArray → List Bool → Bool} (f : Int → Int) (s : St) (a : Int) : closeS T (mapS f s) (f a) = mapR f (closeS T s a) := by
 unfold closeS
 cases ho : s.op with
 | nil =>
  have e : (mapS f s).op = [] := by simp [mapS, ho]
  rw [e]; rfl
 | cons l r =>
  have e : (mapS f s).op = mapL f l :: r.map (mapL f) := by simp [mapS, ho]
  rw [e]
  dsimp only
  have e2 : (⟨(mapS f s).pl, (mapS f s).nm, (mapS f s).ns, r.map (mapL f), (mapS f s).cur ++ (mapL f l).out⟩ : St) = mapS f ⟨s.pl, s.nm, s.ns, r, s.cur ++ l.out⟩ := by simp [mapS, mapL]
  show (if l.nm.kind = 3 then _ else _) = _
  split
  ·rw [e2]
   show thenS (callS T _ (mapT f l.nm) (if s.pl = 2 then l.rl else l.rl ++ [s.pl == 5])) _ = _
   generalize (if s.pl = 2 then l.rl else l.rl ++ [s.pl == 5]) = rl
   rw [← map_then (f := f) (g' := fun u => .ok (u.to 4)) (fun u => rfl)]
   congr 1
   unfold callS
   show (if T l.nm.str rl = true then _ else _) = _
   split
   ·exact map_add f _ _ _
   ·rfl
  ·show Except.ok _ = Except.ok _
   congr 1
   simp [mapS, mapL]
theorem map_wk (f : Int → Int) (lev : Int) : ∀ (c : List Wt) (ns : List Rf.Nd), wkS lev (c.map (mapW f)) ns = (match wkS lev c ns with | .ok (c', n') => .ok (c'.map (mapW f), n') | .error a => .error (f a))
 | [], ns => rfl
 | x :: r, ns => by
  rw [List.map_cons]
  unfold wkS
  show (if lev ≤ Rf.levI x.op then _ else _) = _
  by_cases h : lev ≤ Rf.levI x.op
  ·rw [if_pos h, if_pos h]
   by_cases h2 : ns.length = 1024
   ·rw [if_pos h2, if_pos h2]; rfl
   ·rw [if_neg h2, if_neg h2]; exact map_wk f lev r _
  ·rw [if_neg h, if_neg h]; rfl
theorem map_work (f : Int → Int) (s : St) (lev : Int) : workS (mapS f s) lev = mapR f (workS s lev) := by
 unfold workS
 have e : (mapS f s).cur = s.cur.map (mapW f) := rfl
 have e2 : (mapS f s).ns = s.ns := rfl
 rw [e, e2, map_wk]
 cases wkS lev s.cur s.ns with
 | error a => rfl
 | ok cn => rfl
theorem map_ending {T : ByteArray → List Bool → Bool} (f : Int → Int) (s : St) (t : Tk) : endingS T (mapS f s) (mapT f t) = mapR f (endingS T s t) := by
 unfold endingS
 have e : ∀ x, sgB (mapT f t) x = sgB t x := fun _ => rfl
 rw [e, e]
 show (if _ then nextS (mapS f s) (f t.at') else if _ then closeS T (mapS f s) (f t.at') else if t.kind = 0 ∧ (mapS f s).op = [] then _ else _) = _
 have e2 : (mapS f s).op = [] ↔ s.op = [] := by simp [mapS]
 rw [map_next, map_close]
 split
 ·rfl
 ·split
  ·rfl
  ·by_cases hc : t.kind = 0 ∧ s.op = []
   ·rw [if_pos hc, if_pos ⟨hc.1, e2.2 hc.2⟩]; rfl
   ·rw [if_neg hc, if_neg (fun h => hc ⟨h.1, e2.1 h.2⟩)]; rfl
theorem map_step {K : ByteArray → Bool} {T : ByteArray → List Bool → Bool} (f : Int → Int) (h0 : f 0 = 0) (s : St) (t : Tk) : stepS K T (mapS f s) (mapT f t) = mapR f (stepS K T s t) := by
 have e : ∀ x, sgB (mapT f t) x = sgB t x := fun _ => rfl
 have el : leafN (mapT f t) = leafN t := rfl
 have eo : oprI (mapT f t) = oprI t := rfl
 have ep : (mapS f s).pl = s.pl := rfl
 have ek : (mapT f t).kind = t.kind := rfl
 have ea : (mapT f t).at' = f t.at' := rfl
 have es : (mapT f t).str = t.str := rfl
 have er : rectNd (mapT f t) = rectNd t := rfl
 unfold stepS
 simp only [e, ep, ek, ea, er]
 by_cases c1 : s.pl = 2 ∧ sgB t ⟨#[41]⟩ = true
 ·rw [if_pos c1, if_pos c1]; exact map_close f s _
 rw [if_neg c1, if_neg c1]
 by_cases c2 : (s.pl = 2 ∨ s.pl = 1) ∧ t.kind = 5
 ·rw [if_pos c2, if_pos c2, map_add]; exact map_then (fun u => rfl)
 rw [if_neg c2, if_neg c2]
 by_cases c3 : s.pl = 2 ∨ s.pl = 1 ∨ s.pl = 0
 ·rw [if_pos c3, if_pos c3]
  unfold thingS
  simp only [el, e, ek, ea]
  cases leafN t with
  | some n =>
   dsimp only
   rw [map_add]; exact map_then (fun u => rfl)
  | none =>
   dsimp only
   by_cases d1 : t.kind = 3
   ·rw [if_pos d1, if_pos d1]
    unfold namS
    simp only [es, ea]
    by_cases d2 : mayNm t.str = true ∧ K t.str = true
    ·rw [if_pos d2, if_pos d2]; rfl
    ·rw [if_neg d2, if_neg d2]; rfl
   ·rw [if_neg d1, if_neg d1]
    by_cases d3 : sgB t ⟨#[40]⟩ = true
    ·rw [if_pos d3, if_pos d3, map_open f s t.at' (tk0 0) (tk0 0) (by unfold mapT tk0; simp [h0])]; exact map_then (fun u => rfl)
    ·rw [if_neg d3, if_neg d3]
     by_cases d4 : sgB t ⟨#[45]⟩ = true
     ·rw [if_pos d4, if_pos d4]; rfl
     ·rw [if_neg d4, if_neg d4]; rfl
 rw [if_neg c3, if_neg c3]
 by_cases c4 : s.pl = 3
 ·rw [if_pos c4, if_pos c4]
  unfold openingS
  simp only [e, ea]
  by_cases d3 : sgB t ⟨#[40]⟩ = true
  ·rw [if_pos d3, if_pos d3]
   rw [map_open f s t.at' s.nm (mapS f s).nm rfl]; exact map_then (fun u => rfl)
  ·rw [if_neg d3, if_neg d3]; rfl
 rw [if_neg c4, if_neg c4]
 by_cases c5 : s.pl = 4
 ·rw [if_pos c5, if_pos c5]
  unfold workingS
  simp only [e, eo, ea]
  by_cases d3 : sgB t ⟨#[37]⟩ = true
  ·rw [if_pos d3, if_pos d3]; exact map_add f s _ _
  ·rw [if_neg d3, if_neg d3]
   cases oprI t with
   | none => dsimp only; rw [map_work]; exact map_then (fun u => map_ending f u t)
   | some i => dsimp only; rw [map_work]; exact map_then (fun u => rfl)
 rw [if_neg c5, if_neg c5]
 exact map_ending f s t
theorem map_run {K : ByteArray → Bool} {T : ByteArray → List Bool → Bool} (f : Int → Int) (h0 : f 0 = 0) : ∀ (l : List Tk) (s : St), runS K T (mapS f s) (l.map (mapT f)) = mapR f (runS K T s l)
 | [], s => rfl
 | t :: l, s => by
  show thenS (stepS K T (mapS f s) (mapT f t)) (fun u => runS K T u (l.map (mapT f))) = mapR f (thenS (stepS K T s t) (fun u => runS K T u l))
  rw [map_step f h0]
  exact map_then (fun u => map_run f h0 l u)
theorem map_read {K : ByteArray → Bool} {T : ByteArray → List Bool → Bool} (f : Int → Int) (h0 : f 0 = 0) (l : List Tk) : readS K T (l.map (mapT f)) = (match readS K T l with | .ok ns => .ok ns | .error e => .error (e.1, f e.2)) := by
 have e : mapS f st0 = st0 := by simp [mapS, st0, mapT, tk0, h0]
 unfold readS
 have := map_run (K := K) (T := T) f h0 l st0
 rw [e] at this
 rw [this]
 cases runS K T st0 l with
 | ok u => rfl
 | error e => rfl
def far (a : Int) (z : Int) : Int := if a ≤ z then z + 1 else z
theorem good_parts : ∀ {l : List Tk} {n : Nat} {lo : Int} {k : Nat} {t : Tk}, Good n lo l → l[k]? = some t → (∀ u ∈ l.take k, u.at' < t.at') ∧ (∀ u ∈ l.drop k, t.at' ≤ u.at') ∧ lo ≤ t.at'
 | [], n, lo, k, t, h, ht => by simp at ht
 | u :: r, n, lo, 0, t, h, ht => by
  simp at ht; subst ht
  refine ⟨fun v hv => by simp at hv, fun v hv => ?_, h.1⟩
  rw [List.drop_zero] at hv
  rcases List.mem_cons.1 hv with rfl | hv
  ·exact Int.le_refl _
  ·rcases h.2.2 with ⟨rfl, _⟩ | ⟨_, _, _, h4⟩
   ·cases hv
   ·obtain ⟨i, hi, e⟩ := List.mem_iff_getElem.1 hv
    have := (good_parts h4 (List.getElem?_eq_some_iff.2 ⟨hi, e⟩)).2.2
    omega
 | u :: r, n, lo, k + 1, t, h, ht => by
  have ht' : r[k]? = some t := by simpa using ht
  rcases h.2.2 with ⟨rfl, _⟩ | ⟨_, _, _, h4⟩
  ·simp at ht'
  ·obtain ⟨h1, h2, h3⟩ := good_parts h4 ht'
   refine ⟨fun v hv => ?_, fun v hv => h2 v (by simpa using hv), by have := h.1; omega⟩
   rw [List.take_succ_cons] at hv
   rcases List.mem_cons.1 hv with rfl | hv
   ·omega
   ·exact h1 v hv
theorem bump_far {x : ByteArray} {k : Nat} {t : Tk} (ht : (toks x)[k]? = some t) : bump k (toks x) = (toks x).map (mapT (far t.at')) := by
 obtain ⟨h1, h2, _⟩ := good_parts (good_toks x) ht
 unfold bump
 conv => rhs; rw [← List.take_append_drop k (toks x), List.map_append]
 congr 1
 ·conv => lhs; rw [← List.map_id ((toks x).take k)]
  apply List.map_congr_left
  intro u hu
  have := h1 u hu
  show u = mapT (far t.at') u
  unfold mapT far
  rw [if_neg zq17]
 ·apply List.map_congr_left
  intro u hu
  have := h2 u hu
  unfold mapT far incT
  rw [if_pos this]
def farR (a : Int) (r : Except (Int × Int) (List Rf.Nd)) : Except (Int × Int) (List Rf.Nd) := match r with
 | .ok ns => .ok ns
 | .error e => .error (e.1, far a e.2)
theorem read_blank {K : ByteArray → Bool} {T : ByteArray → List Bool → Bool} {s : ByteArray} {k a : Nat} {t : Tk} (hF : isF s = true) (ht : (toks s)[k]? = some t) (ha : t.at' = a) :
  1 ≤ a ∧ a ≤ s.size ∧ readS K T (toks (s.extract 0 a ++ ⟨#[32]⟩ ++ s.extract a s.size)) = farR a (readS K T (toks s)) := by
 obtain ⟨h1, h2, h3⟩ := blanks_toks2 hF ht ha
 refine ⟨h1, h2, ?_⟩
 rw [h3, bump_far ht, map_read _ (by unfold far; rw [if_neg zq17]), ha]
 cases readS K T (toks s) <;> rfl
end Go.Proofs.YtcmjhjnpcogmgaaGreatDoor
