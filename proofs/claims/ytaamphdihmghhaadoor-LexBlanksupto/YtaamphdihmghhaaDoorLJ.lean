/- A blank that is put in where a token begins changes nothing but the places behind it, in plain lists. No walk. -/
import Derived.Test.YtaamphdihmghhaaDoorLH
namespace Go.Proofs.YtaamphdihmghhaaDoor
open Go.RowKit
set_option linter.all false
theorem pcs_fuel : ∀ (f : Nat) (rest : List UInt8) (n : Nat), rest.length < f → pcs (f + 1) rest n = pcs f rest n
  | 0, rest, n, h => absurd h (by omega)
  | f + 1, rest, n, h => by
    rw [pcs_succ (f + 1) rest n, pcs_succ f rest n]
    have hd := dropB_le rest
    by_cases hr : dropB rest = []
    · rw [if_pos ((take_nil_iff _).2 hr), if_pos ((take_nil_iff _).2 hr)]
    · have hp := reachL_pos hr
      have hl := len_pos hr
      rw [if_neg (fun e => hr ((take_nil_iff _).1 e)), if_neg (fun e => hr ((take_nil_iff _).1 e)), pcs_fuel f _ n (by rw [List.length_drop]; omega)]
def incP (y : Nat × List UInt8) : Nat × List UInt8 := (y.1 + 1, y.2)
theorem pcs_n : ∀ (f : Nat) (rest : List UInt8) (n : Nat), rest.length ≤ n → pcs f rest (n + 1) = (pcs f rest n).map incP
  | 0, rest, n, h => rfl
  | f + 1, rest, n, h => by
    rw [pcs_succ, pcs_succ, List.map_cons]
    have hd := dropB_le rest
    have e : (n + 1 - (dropB rest).length, (dropB rest).take (reachL (dropB rest))) = incP (n - (dropB rest).length, (dropB rest).take (reachL (dropB rest))) := by
      unfold incP; congr 1; dsimp only; omega
    rw [e]
    congr 1
    split
    · rfl
    · exact pcs_n f _ n (by rw [List.length_drop]; omega)
/-- A blank put in behind j bytes. -/
def insB (l : List UInt8) (j : Nat) : List UInt8 := l.take j ++ 32 :: l.drop j
theorem insB_app (a l : List UInt8) (j : Nat) : insB (a ++ l) (a.length + j) = a ++ insB l j := by
  unfold insB
  rw [List.take_append, List.drop_append, List.take_of_length_le (by omega), List.drop_of_length_le (by omega)]
  simp
theorem insB_NX (l : List UInt8) (j : Nat) : NX l (insB l j) := by
  cases j with
  | zero => exact .inr (.inl ⟨l, by unfold insB; simp⟩)
  | succ j =>
    cases l with
    | nil => exact .inr (.inl ⟨[], rfl⟩)
    | cons c t => exact .inr (.inr ⟨c, t, insB t j, rfl, by unfold insB; simp⟩)
theorem pcs_ins : ∀ (f : Nat) (rest : List UInt8) (n k : Nat) (x : Nat × List UInt8), rest.length < f → rest.length ≤ n → (∀ y ∈ pcs f rest n, (rdT (bs y.2)).kind ≠ 8) → (pcs f rest n)[k]? = some x →
    n - rest.length ≤ x.1 ∧ x.1 ≤ n ∧ pcs (f + 1) (insB rest (x.1 - (n - rest.length))) (n + 1) = (pcs f rest n).take k ++ ((pcs f rest n).drop k).map incP
  | 0, rest, n, k, x, h, _, _, _ => absurd h (by omega)
  | f + 1, rest, n, k, x, h, hn, hw, hx => by
    have hd := dropB_le rest
    have hsp := dropB_take rest
    have hspl := congrArg List.length hsp
    rw [List.length_append] at hspl
    have hb := take_blank rest
    have hh := dropB_head rest
    rw [pcs_succ f rest n] at hx hw ⊢
    revert hsp hspl hb hh hx hw hd
    generalize dropB rest = r
    generalize rest.takeWhile ([32].contains ·) = b
    intro hw hx hd hsp hspl hb hh
    cases k with
    | zero =>
      simp only [List.getElem?_cons_zero, Option.some.injEq] at hx
      subst hx
      dsimp only
      refine ⟨by omega, by omega, ?_⟩
      have e : insB rest (n - r.length - (n - rest.length)) = b ++ 32 :: r := by
        rw [hsp]
        have e1 : n - r.length - (n - (b ++ r).length) = b.length := by rw [List.length_append]; omega
        rw [e1]; unfold insB; rw [List.take_left, List.drop_left]
      have e2 : dropB (b ++ 32 :: r) = r := by
        have := dropB_app (b ++ [32]) r (by intro c hc; rcases List.mem_append.1 hc with h1 | h1; exact hb c h1; simp at h1; subst h1; rfl) hh
        simpa using this
      rw [e, pcs_succ, e2]
      simp only [List.take_zero, List.nil_append, List.drop_zero, List.map_cons]
      have e3 : (n + 1 - r.length, r.take (reachL r)) = incP (n - r.length, r.take (reachL r)) := by unfold incP; congr 1; dsimp only; omega
      rw [e3]
      congr 1
      by_cases hr : r = []
      · rw [if_pos ((take_nil_iff _).2 hr), if_pos ((take_nil_iff _).2 hr)]; rfl
      · have hp := reachL_pos hr
        have hl := len_pos hr
        rw [if_neg (fun e => hr ((take_nil_iff _).1 e)), if_neg (fun e => hr ((take_nil_iff _).1 e)), pcs_fuel f _ _ (by rw [List.length_drop]; omega), pcs_n f _ n (by rw [List.length_drop]; omega)]
    | succ k =>
      have hr : r ≠ [] := by
        intro e
        rw [if_pos ((take_nil_iff _).2 e)] at hx
        simp at hx
      have hp := reachL_pos hr
      have hl := len_pos hr
      have hle := reachL_le r
      have hpn : r.take (reachL r) ≠ [] := fun e => hr ((take_nil_iff _).1 e)
      rw [if_neg hpn] at hx hw ⊢
      simp only [List.getElem?_cons_succ] at hx
      have hql : (r.drop (reachL r)).length = r.length - reachL r := List.length_drop ..
      obtain ⟨i1, i2, i3⟩ := pcs_ins f (r.drop (reachL r)) n k x (by omega) (by omega) (fun y hy => hw y (List.mem_cons_of_mem _ hy)) hx
      refine ⟨by omega, i2, ?_⟩
      have hpl : (r.take (reachL r)).length = reachL r := by rw [List.length_take]; omega
      have hk8 := hw _ (List.mem_cons_self)
      dsimp only at hk8
      have hrr : r = r.take (reachL r) ++ r.drop (reachL r) := (List.take_append_drop _ _).symm
      obtain ⟨j, hj⟩ : ∃ j, x.1 - (n - (r.drop (reachL r)).length) = j := ⟨_, rfl⟩
      rw [hj] at i3
      have e1 : x.1 - (n - rest.length) = b.length + ((r.take (reachL r)).length + j) := by omega
      have e2 : insB rest (b.length + ((r.take (reachL r)).length + j)) = b ++ (r.take (reachL r) ++ insB (r.drop (reachL r)) j) := by
        have h1 := insB_app b r ((r.take (reachL r)).length + j)
        rw [← hsp] at h1
        rw [h1]
        have h2 := insB_app (r.take (reachL r)) (r.drop (reachL r)) j
        rw [List.take_append_drop] at h2
        rw [h2]
      have hreach : reachL (r.take (reachL r) ++ insB (r.drop (reachL r)) j) = (r.take (reachL r)).length :=
        reach_ext _ (r.drop (reachL r)) _ hpn (insB_NX _ _) (by rw [List.take_append_drop, hpl]) hk8
      have e3 : dropB (b ++ (r.take (reachL r) ++ insB (r.drop (reachL r)) j)) = r.take (reachL r) ++ insB (r.drop (reachL r)) j := by
        refine dropB_app b _ hb ?_
        rw [bgn_app hpn]
        rw [hrr, bgn_app hpn] at hh
        exact hh
      rw [e1, e2, pcs_succ, e3, hreach, List.take_left, List.drop_left, if_neg hpn, i3]
      have hil : (insB (r.drop (reachL r)) j).length = (r.drop (reachL r)).length + 1 := by
        unfold insB
        rw [List.length_append, List.length_cons, List.length_take, List.length_drop, List.length_drop]
        omega
      have e4 : n + 1 - (r.take (reachL r) ++ insB (r.drop (reachL r)) j).length = n - r.length := by
        rw [List.length_append, hil, hpl]; omega
      rw [e4]
      simp
def incT (t : Tk) : Tk := ⟨t.kind, t.at' + 1, t.num, t.str, t.c0, t.c1, t.r0, t.r1, t.r2, t.r3, t.code⟩
/-- The tokens with those from the k-th on one place further. -/
def bump (k : Nat) (l : List Tk) : List Tk := l.take k ++ (l.drop k).map incT
theorem tkAt_inc (y : Nat × List UInt8) : tkAt (incP y) = incT (tkAt y) := by
  unfold tkAt incP tkSet incT
  dsimp only
  congr 1
theorem cutW_none {l : List Tk} (h : ∀ t ∈ l, t.kind ≠ 8) : cutW l = l := cutW_all l (fun j u hu => h u (List.mem_of_getElem? hu))
theorem blanks_toks {s : ByteArray} {k a : Nat} {t : Tk} (hend : ∀ u, (toks s)[(toks s).length - 1]? = some u → u.kind ≠ 8) (ht : (toks s)[k]? = some t) (ha : t.at' = a) :
    a ≤ s.size ∧ toks (s.extract 0 a ++ ⟨#[32]⟩ ++ s.extract a s.size) = bump k (toks s) := by
  have hg := good_toks s
  have hno : ∀ u ∈ toks s, u.kind ≠ 8 := by
    intro u hu
    obtain ⟨i, hi, e⟩ := List.mem_iff_getElem.1 hu
    have hi' : (toks s)[i]? = some u := by rw [List.getElem?_eq_getElem hi, e]
    rcases (hg.at hi').2.2 with ⟨h1, _⟩ | ⟨_, h2, _⟩
    · exact hend u (by have e2 : (toks s).length - 1 = i := by omega
                       rw [e2]; exact hi')
    · exact h2
  cases hF : isF s
  · have e : toks s = [tk0 8] := by unfold toks; rw [hF]; rfl
    rw [e] at hno
    exact absurd rfl (hno (tk0 8) (by simp))
  · have h1 : 1 ≤ s.size := by
      rw [size_len]
      cases hl : s.data.toList with
      | nil => unfold isF at hF; rw [hl] at hF; simp at hF
      | cons c t => simp
    obtain ⟨rest, hrest⟩ : ∃ rest, s.data.toList = 61 :: rest := by
      cases hl : s.data.toList with
      | nil => rw [size_len, hl] at h1; simp at h1
      | cons c r =>
        refine ⟨r, ?_⟩
        unfold isF at hF; rw [hl] at hF
        have h61 : (61 : UInt8) = c := by simpa using hF.symm
        rw [← h61]
    have hsz : s.size = rest.length + 1 := by rw [size_len, hrest]; rfl
    have hP : pcsOf s = pcs (rest.length + 1) rest (rest.length + 1) := by unfold pcsOf; rw [hrest, hsz]; rfl
    have eT : toks s = cutW ((pcsOf s).map tkAt) := by unfold toks; rw [hF]; rfl
    have hlast : ∀ y ∈ pcsOf s, (rdT (bs y.2)).kind ≠ 8 := by
      have key : ∀ l : List Tk, (∀ u ∈ cutW l, u.kind ≠ 8) → ∀ u ∈ l, u.kind ≠ 8 := by
        intro l
        induction l with
        | nil => intro _ u hu; simp at hu
        | cons v r ih =>
          intro hc u hu
          have hv : v.kind ≠ 8 := hc v (by simp [cutW])
          simp only [cutW, if_neg hv] at hc
          rcases List.mem_cons.1 hu with e | e
          · rw [e]; exact hv
          · exact ih (fun u hu => hc u (List.mem_cons_of_mem _ hu)) u e
      intro y hy
      have := key _ (by rw [← eT]; exact hno) (tkAt y) (List.mem_map_of_mem hy)
      exact this
    have eT2 : toks s = (pcsOf s).map tkAt := by
      rw [eT]; refine cutW_none ?_
      intro u hu
      obtain ⟨y, hy, e⟩ := List.mem_map.1 hu
      rw [← e]; exact hlast y hy
    have ht2 : ((pcsOf s).map tkAt)[k]? = some t := by rw [← eT2]; exact ht
    rw [List.getElem?_map] at ht2
    cases hx : (pcsOf s)[k]? with
    | none => rw [hx] at ht2; simp at ht2
    | some x =>
      rw [hx] at ht2
      simp only [Option.map_some, Option.some.injEq] at ht2
      have hxa : x.1 = a := by
        have : ((x.1 : Nat) : Int) = (a : Int) := by rw [← ha, ← ht2]; rfl
        omega
      rw [hP] at hx hlast
      obtain ⟨i1, i2, i3⟩ := pcs_ins (rest.length + 1) rest (rest.length + 1) k x (by omega) (by omega) hlast hx
      rw [hxa] at i1 i2 i3
      refine ⟨by omega, ?_⟩
      have e0 : rest.length + 1 - rest.length = 1 := by omega
      rw [e0] at i1 i3
      obtain ⟨j, hj⟩ : ∃ j, a = j + 1 := ⟨a - 1, by omega⟩
      have hl2 : (s.extract 0 a ++ ⟨#[32]⟩ ++ s.extract a s.size : ByteArray).data.toList = 61 :: insB rest j := by
        rw [ByteArray.data_append, ByteArray.data_append, Array.toList_append, Array.toList_append, ext_to, ext_from, hrest, hj]
        unfold insB
        simp
      obtain ⟨S, hS⟩ : ∃ S, (s.extract 0 a ++ ⟨#[32]⟩ ++ s.extract a s.size : ByteArray) = S := ⟨_, rfl⟩
      rw [hS] at hl2 ⊢
      have hil : (insB rest j).length = rest.length + 1 := by
        unfold insB
        rw [List.length_append, List.length_cons, List.length_take, List.length_drop]; omega
      have hSs : S.size = rest.length + 1 + 1 := by rw [size_len, hl2, List.length_cons, hil]
      have hP2 : pcsOf S = pcs (rest.length + 1 + 1) (insB rest j) (rest.length + 1 + 1) := by unfold pcsOf; rw [hl2, hSs]; rfl
      have hj2 : a - 1 = j := by omega
      rw [hj2] at i3
      have hF2 : isF S = true := by unfold isF; rw [hl2]; rfl
      unfold toks
      rw [hF2]
      simp only [if_true]
      have e5 : (pcsOf S).map tkAt = bump k (toks s) := by
        rw [hP2, i3, eT2, hP]
        unfold bump
        rw [List.map_append, List.map_take, List.map_map, ← List.map_drop, List.map_map]
        congr 1
      rw [e5]
      have e6 : (if isF s = true then cutW ((pcsOf s).map tkAt) else [tk0 8]) = toks s := rfl
      first | rw [e6] | skip
      refine cutW_none ?_
      intro u hu
      unfold bump at hu
      rcases List.mem_append.1 hu with h2 | h2
      · exact hno u (List.mem_of_mem_take h2)
      · obtain ⟨y, hy, e⟩ := List.mem_map.1 h2
        rw [← e]
        exact hno y (List.mem_of_mem_drop hy)
end Go.Proofs.YtaamphdihmghhaaDoor
