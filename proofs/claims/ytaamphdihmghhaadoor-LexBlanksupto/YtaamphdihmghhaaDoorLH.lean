/- What follows for a token's own text and for a blank that is put in where a token begins, in plain lists. No walk. -/
import Derived.Test.YtaamphdihmghhaaDoorLE
namespace Go.Proofs.YtaamphdihmghhaaDoor
open Go.RowKit
set_option linter.all false
theorem dropB_take (l : List UInt8) : l = l.takeWhile ([32].contains ·) ++ dropB l := (List.takeWhile_append_dropWhile).symm
theorem dropB_head (l : List UInt8) : bgn (dropB l) [32] = false := by
  unfold dropB
  induction l with
  | nil => rfl
  | cons c t ih =>
    cases hc : [32].contains c
    · rw [List.dropWhile_cons, hc]; exact hc
    · rw [List.dropWhile_cons, hc]; exact ih
theorem dropB_id {l : List UInt8} (h : bgn l [32] = false) : dropB l = l := by
  cases l with
  | nil => rfl
  | cons c t => unfold dropB; rw [List.dropWhile_cons]; have h' : [32].contains c = false := h; rw [h']; rfl
theorem dropB_app (b l : List UInt8) (hb : ∀ c ∈ b, [32].contains c = true) (h : bgn l [32] = false) : dropB (b ++ l) = l := by
  induction b with
  | nil => exact dropB_id h
  | cons c t ih =>
    unfold dropB at ih ⊢
    rw [List.cons_append, List.dropWhile_cons, hb c (by simp)]
    exact ih (fun d hd => hb d (by simp [hd]))
theorem take_blank (l : List UInt8) : ∀ c ∈ l.takeWhile ([32].contains ·), [32].contains c = true := fun c hc => by
  have h := List.all_takeWhile (p := ([32].contains ·)) (l := l)
  exact List.all_eq_true.1 h c hc
theorem cutW_pre : ∀ (l : List Tk) (i : Nat) (t : Tk), (cutW l)[i]? = some t → l[i]? = some t
  | [], i, t, h => by simp [cutW] at h
  | u :: r, 0, t, h => by simpa [cutW] using h
  | u :: r, i + 1, t, h => by
    simp only [cutW, List.getElem?_cons_succ] at h ⊢
    split at h
    · simp at h
    · exact cutW_pre r i t h
/-- A piece of a text, what stands behind it, and where the next begins. -/
theorem pcs_split : ∀ (f : Nat) (rest : List UInt8) (n i : Nat) (x y : Nat × List UInt8), rest.length < f → rest.length ≤ n → (pcs f rest n)[i]? = some x → (pcs f rest n)[i + 1]? = some y →
    ∃ pre q, rest = pre ++ (x.2 ++ q) ∧ x.1 = n - (x.2 ++ q).length ∧ x.2 ≠ [] ∧ reachL (x.2 ++ q) = x.2.length ∧ bgn x.2 [32] = false ∧ y.1 = n - (dropB q).length
  | 0, rest, n, i, x, y, h, _, _, _ => absurd h (by omega)
  | f + 1, rest, n, i, x, y, h, hn, hx, hy => by
    rw [pcs_succ] at hx hy
    have hd := dropB_le rest
    have hle := reachL_le (dropB rest)
    by_cases hr : dropB rest = []
    · rw [if_pos ((take_nil_iff _).2 hr)] at hy
      simp at hy
    · have hpn : (dropB rest).take (reachL (dropB rest)) ≠ [] := fun e => hr ((take_nil_iff _).1 e)
      rw [if_neg hpn] at hx hy
      have hp := reachL_pos hr
      cases i with
      | zero =>
        simp only [List.getElem?_cons_zero, Option.some.injEq] at hx
        subst hx
        refine ⟨rest.takeWhile ([32].contains ·), (dropB rest).drop (reachL (dropB rest)), ?_, ?_, hpn, ?_, ?_, ?_⟩
        · dsimp only; rw [List.take_append_drop]; exact dropB_take rest
        · dsimp only; rw [List.take_append_drop]
        · dsimp only; rw [List.take_append_drop, List.length_take]; omega
        · have h1 := dropB_head rest
          dsimp only
          cases hd : dropB rest with
          | nil => exact absurd hd hr
          | cons c t =>
            rw [hd] at h1 hp
            obtain ⟨k, hk⟩ : ∃ k, reachL (c :: t) = k + 1 := ⟨reachL (c :: t) - 1, by omega⟩
            rw [hk]; exact h1
        · simp only [List.getElem?_cons_succ] at hy
          cases f with
          | zero => omega
          | succ g =>
            rw [pcs_succ] at hy
            simp only [List.getElem?_cons_zero, Option.some.injEq] at hy
            rw [← hy]
      | succ i =>
        simp only [List.getElem?_cons_succ] at hx hy
        have hl : ((dropB rest).drop (reachL (dropB rest))).length = (dropB rest).length - reachL (dropB rest) := List.length_drop ..
        obtain ⟨pre, q, e1, e2, e3, e4, e5, e6⟩ := pcs_split f _ n i x y (by omega) (by omega) hx hy
        refine ⟨rest.takeWhile ([32].contains ·) ++ ((dropB rest).take (reachL (dropB rest)) ++ pre), q, ?_, e2, e3, e4, e5, e6⟩
        have h1 : dropB rest = (dropB rest).take (reachL (dropB rest)) ++ (pre ++ (x.2 ++ q)) := by rw [← e1, List.take_append_drop]
        have h2 := dropB_take rest
        rw [h1] at h2
        simpa using h2
theorem toks_split {s : ByteArray} {i : Nat} {t u : Tk} (ht : (toks s)[i]? = some t) (hu : (toks s)[i + 1]? = some u) :
    ∃ pre p q, s.data.toList = pre ++ (p ++ q) ∧ t = tkSet (rdT (bs p)) (s.size - (p ++ q).length) ∧ p ≠ [] ∧ reachL (p ++ q) = p.length ∧ bgn p [32] = false ∧ u.at' = ((s.size - (dropB q).length : Nat) : Int) ∧ (rdT (bs p)).kind ≠ 8 := by
  have hg := (good_toks s).at ht
  have hil := (List.getElem?_eq_some_iff.1 hu).1
  have hk8 : t.kind ≠ 8 := by rcases hg.2.2 with ⟨h, _⟩ | ⟨_, h, _⟩; omega; exact h
  unfold toks at ht hu
  cases hF : isF s
  · rw [hF] at hu; simp at hu
  · rw [hF] at ht hu
    simp only [if_true] at ht hu
    have ht' := cutW_pre _ _ _ ht
    have hu' := cutW_pre _ _ _ hu
    rw [List.getElem?_map] at ht' hu'
    cases hx : (pcsOf s)[i]? with
    | none => rw [hx] at ht'; simp at ht'
    | some x =>
      cases hy : (pcsOf s)[i + 1]? with
      | none => rw [hy] at hu'; simp at hu'
      | some y =>
        rw [hx] at ht'
        rw [hy] at hu'
        simp only [Option.map_some, Option.some.injEq] at ht' hu'
        have h1 : 1 ≤ s.size := by
          rw [size_len]
          cases hl : s.data.toList with
          | nil => unfold isF at hF; rw [hl] at hF; simp at hF
          | cons c t => simp
        have hl1 : (s.data.toList.drop 1).length = s.size - 1 := by rw [List.length_drop, ← size_len]
        obtain ⟨pre, q, e1, e2, e3, e4, e5, e6⟩ := pcs_split s.size (s.data.toList.drop 1) s.size i x y (by omega) (by omega) hx hy
        refine ⟨s.data.toList.take 1 ++ pre, x.2, q, ?_, ?_, e3, e4, e5, ?_, ?_⟩
        · rw [List.append_assoc, ← e1, List.take_append_drop]
        · rw [← ht', ← e2]; rfl
        · rw [← hu', ← e6]; rfl
        · have : t.kind = (rdT (bs x.2)).kind := by rw [← ht']; rfl
          rw [← this]; exact hk8
/-- A piece, blanks behind it, behind a sign of its own: it and the end. -/
theorem alone_toks {p q b : List UInt8} (hp : p ≠ []) (hr : reachL (p ++ q) = p.length) (h32 : bgn p [32] = false) (hk : (rdT (bs p)).kind ≠ 8) (hb : ∀ c ∈ b, [32].contains c = true) :
    toks (bs (61 :: (p ++ b))) = [tkSet (rdT (bs p)) 1, tkSet (tk0 0) (p.length + b.length + 1)] := by
  have hx : NX q b := by
    cases b with
    | nil => exact .inl rfl
    | cons c t =>
      have hc : c = 32 := by simpa using hb c (by simp)
      subst hc; exact .inr (.inl ⟨t, rfl⟩)
  have hr2 := reach_ext p q b hp hx hr hk
  have hd1 : dropB (p ++ b) = p ++ b := dropB_id (by rw [bgn_app hp]; exact h32)
  have hd2 : dropB b = [] := by have := dropB_app b [] hb rfl; simpa using this
  have hl : p.length + b.length = (p ++ b).length := by simp
  have hpl := len_pos hp
  have hF : isF (bs (61 :: (p ++ b))) = true := by unfold isF; rw [bs_data]; rfl
  have hP : pcsOf (bs (61 :: (p ++ b))) = [(1, p), (p.length + b.length + 1, [])] := by
    unfold pcsOf
    rw [bs_data, bs_size]
    simp only [List.drop_succ_cons, List.drop_zero, List.length_cons]
    rw [pcs_succ, hd1, hr2, List.take_left', List.drop_left']
    rw [if_neg hp]
    · obtain ⟨g, hg⟩ : ∃ g, (p ++ b).length = g + 1 := ⟨(p ++ b).length - 1, by rw [← hl]; omega⟩
      have e1 : (p ++ b).length + 1 - (p ++ b).length = 1 := by omega
      rw [e1, hg, pcs_succ, hd2]
      rw [if_pos (by simp), hl, hg]
      simp
    · rfl
    · rfl
  unfold toks
  rw [hF, hP]
  simp only [if_true, List.map_cons, List.map_nil, cutW]
  have h1 : (tkAt (1, p)).kind ≠ 8 := hk
  rw [if_neg h1]
  have e : tkAt (p.length + b.length + 1, []) = tkSet (tk0 0) (p.length + b.length + 1) := rfl
  rw [e]
  split <;> rfl
theorem alone_all {s : ByteArray} {i : Nat} {t u : Tk} (ht : (toks s)[i]? = some t) (hu : (toks s)[i + 1]? = some u) :
    ∃ (a c : Nat) (e1 : Tk), t.at' = a ∧ u.at' = c ∧ a ≤ c ∧ c ≤ s.size ∧ e1.kind = 0 ∧ toks (⟨#[61]⟩ ++ s.extract a c) = [tkSet t 1, e1] := by
  obtain ⟨pre, p, q, e1, e2, e3, e4, e5, e6, e7⟩ := toks_split ht hu
  have hd := dropB_le q
  have hlen : s.size = pre.length + (p ++ q).length := by rw [size_len, e1, List.length_append]
  have hpq : (p ++ q).length = p.length + q.length := List.length_append
  have hq := congrArg List.length (dropB_take q)
  rw [List.length_append] at hq
  refine ⟨s.size - (p ++ q).length, s.size - (dropB q).length, tkSet (tk0 0) (p.length + (q.takeWhile ([32].contains ·)).length + 1), by rw [e2]; rfl, e6, by omega, by omega, rfl, ?_⟩
  have es : (⟨#[61]⟩ ++ s.extract (s.size - (p ++ q).length) (s.size - (dropB q).length) : ByteArray) = bs (61 :: (p ++ q.takeWhile ([32].contains ·))) := by
    rw [← bs_of (⟨#[61]⟩ ++ s.extract (s.size - (p ++ q).length) (s.size - (dropB q).length))]
    congr 1
    have hx : (s.extract (s.size - (p ++ q).length) (s.size - (dropB q).length)).data.toList = p ++ q.takeWhile ([32].contains ·) := by
      rw [ByteArray.data_extract, Array.toList_extract, List.extract_eq_take_drop, e1]
      have h1 : s.size - (p ++ q).length = pre.length := by omega
      rw [h1, List.drop_left]
      have h2 : s.size - (dropB q).length - pre.length = p.length + (q.takeWhile ([32].contains ·)).length := by omega
      rw [h2]
      have h3 : p ++ q = (p ++ q.takeWhile ([32].contains ·)) ++ dropB q := by rw [List.append_assoc, ← dropB_take q]
      rw [h3, List.take_left' (by rw [List.length_append])]
    rw [ByteArray.data_append, Array.toList_append, hx]
    rfl
  rw [es, alone_toks e3 e4 e5 e7 (take_blank q), e2]
  rfl
end Go.Proofs.YtaamphdihmghhaaDoor
