/- Plain facts of a formula's references: each is of a node, each node's is there, none stands twice; how often one stands in a list, and which of a list were met so far. No condition. -/
import Derived.Test.YtekpmdpmcbjkkaaDoorO3
namespace Go.Proofs.YtekpmdpmcbjkkaaDoor
open Go.Shelf Go.RowKit
set_option linter.all false
theorem addR_sub {acc : List Rf} {r x : Rf} (h : x ∈ acc) : x ∈ addR acc r := by
  unfold addR; split
  · exact h
  · exact List.mem_append.2 (.inl h)
theorem addR_has (acc : List Rf) (r : Rf) : r ∈ addR acc r := by
  unfold addR; split
  · rename_i h
    obtain ⟨y, hy, e⟩ := List.any_eq_true.1 h
    rw [← sameRf_is e]; exact hy
  · exact List.mem_append.2 (.inr (by simp))
theorem addR_src {acc : List Rf} {r x : Rf} (h : x ∈ addR acc r) : x ∈ acc ∨ x = r := by
  unfold addR at h; split at h
  · exact .inl h
  · rcases List.mem_append.1 h with h | h
    · exact .inl h
    · exact .inr (by simpa using h)
theorem addR_nodup {acc : List Rf} {r : Rf} (h : acc.Nodup) : (addR acc r).Nodup := by
  unfold addR; split
  · exact h
  · rename_i hk
    refine List.nodup_append.2 ⟨h, by simp, fun a ha b hb => ?_⟩
    have e : b = r := by simpa using hb
    rintro rfl
    exact hk (List.any_eq_true.2 ⟨a, ha, by rw [e]; exact sameRf_refl _⟩)
theorem ofStep_sub {acc : List Rf} {n : Nd} {x : Rf} (h : x ∈ acc) : x ∈ ofStep acc n := by
  unfold ofStep; split
  · exact addR_sub h
  · exact h
theorem ofFrom_sub : ∀ (ns : List Nd) {acc : List Rf} {x : Rf}, x ∈ acc → x ∈ ofFrom acc ns
  | [], _, _, h => h
  | n :: r, _, _, h => ofFrom_sub r (ofStep_sub h)
theorem ofFrom_has (ns : List Nd) : ∀ {acc : List Rf} {n : Nd} {r : Rf}, n ∈ ns → refN n = some r → r ∈ ofFrom acc ns := by
  induction ns with
  | nil => intro acc n r hn; cases hn
  | cons m l ih =>
    intro acc n r hn hr
    rcases List.mem_cons.1 hn with rfl | hn
    · refine ofFrom_sub l ?_
      unfold ofStep; rw [hr]; exact addR_has _ _
    · exact ih hn hr
theorem ofFrom_src : ∀ (ns : List Nd) {acc : List Rf} {x : Rf}, x ∈ ofFrom acc ns → x ∈ acc ∨ ∃ n ∈ ns, refN n = some x
  | [], _, _, h => .inl h
  | n :: l, acc, x, h => by
    rcases ofFrom_src l h with h | ⟨m, hm, hr⟩
    · unfold ofStep at h
      cases hn : refN n with
      | none => rw [hn] at h; exact .inl h
      | some r =>
        rw [hn] at h
        rcases addR_src h with h | rfl
        · exact .inl h
        · exact .inr ⟨n, by simp, hn⟩
    · exact .inr ⟨m, by simp [hm], hr⟩
theorem ofFrom_nodup : ∀ (ns : List Nd) {acc : List Rf}, acc.Nodup → (ofFrom acc ns).Nodup
  | [], _, h => h
  | n :: l, acc, h => by
    refine ofFrom_nodup l ?_
    unfold ofStep; split
    · exact addR_nodup h
    · exact h
theorem ofFrom_len : ∀ (ns : List Nd) (acc : List Rf), (ofFrom acc ns).length ≤ acc.length + ns.length
  | [], _ => Nat.le_refl _
  | n :: l, acc => by
    have h := ofFrom_len l (ofStep acc n)
    have h2 : (ofStep acc n).length ≤ acc.length + 1 := by
      unfold ofStep addR
      split
      · split <;> simp
      · simp
    show (ofFrom (ofStep acc n) l).length ≤ _
    simp only [List.length_cons]; omega
/-- How often a reference stands among the first k. -/
def cnt (l : List Rf) (r : Rf) (k : Nat) : Nat := ((l.take k).filter (fun x => sameRf x r)).length
theorem cnt_zero (l : List Rf) (r : Rf) : cnt l r 0 = 0 := rfl
theorem cnt_y {l : List Rf} {r x : Rf} {k : Nat} (h : l[k]? = some x) (hs : sameRf x r = true) : cnt l r (k + 1) = cnt l r k + 1 := by
  unfold cnt; rw [List.take_add_one, h]; simp [hs]
theorem cnt_n {l : List Rf} {r x : Rf} {k : Nat} (h : l[k]? = some x) (hs : sameRf x r = false) : cnt l r (k + 1) = cnt l r k := by
  unfold cnt; rw [List.take_add_one, h]; simp [hs]
theorem cnt_le (l : List Rf) (r : Rf) (k : Nat) : cnt l r k ≤ k := by
  unfold cnt
  exact Nat.le_trans (List.length_filter_le _ _) (by simp; omega)
theorem cnt_one : ∀ {l : List Rf} {r : Rf}, l.Nodup → r ∈ l → cnt l r l.length = 1 := by
  intro l r hn hr
  unfold cnt
  rw [List.take_length]
  induction l with
  | nil => cases hr
  | cons a l ih =>
    have hn2 := List.nodup_cons.1 hn
    rcases List.mem_cons.1 hr with rfl | hr
    · rw [List.filter_cons, if_pos (sameRf_refl _)]
      have : l.filter (fun x => sameRf x r) = [] := List.filter_eq_nil_iff.2 (fun x hx e => hn2.1 (by rw [← sameRf_is e]; exact hx))
      rw [this]; rfl
    · have hne : sameRf a r = false := sameRf_f (fun e => hn2.1 (by rw [e]; exact hr))
      rw [List.filter_cons, if_neg (by simp [hne])]
      exact ih hn2.2 hr
/-- Whether a reference is one of the nodes'. -/
def usedB (pre : List Nd) (x : Rf) : Bool := pre.any (fun n => match refN n with
  | some r => sameRf x r
  | none => false)
theorem used_none {ns : List Nd} {i : Nat} {n : Nd} (h : ns[i]? = some n) (hr : refN n = none) (x : Rf) : usedB (ns.take (i + 1)) x = usedB (ns.take i) x := by
  unfold usedB; rw [List.take_add_one, h]; simp [hr]
theorem used_some {ns : List Nd} {i : Nat} {n : Nd} {r : Rf} (h : ns[i]? = some n) (hr : refN n = some r) (x : Rf) : usedB (ns.take (i + 1)) x = (usedB (ns.take i) x || sameRf x r) := by
  unfold usedB; rw [List.take_add_one, h]; simp [hr]
theorem used_all {ns : List Nd} {x : Rf} (h : x ∈ ofFrom [] ns) : usedB ns x = true := by
  rcases ofFrom_src ns h with h | ⟨n, hn, hr⟩
  · cases h
  · exact List.any_eq_true.2 ⟨n, hn, by rw [hr]; exact sameRf_refl _⟩
end Go.Proofs.YtekpmdpmcbjkkaaDoor
