/- How far a token reaches hangs on its own bytes and on the first one behind it alone, in plain lists. No walk. · What follows for a token's own text and for a blank that is put in where a token begins, in plain lists. No walk. · A blank that is put in where a token begins changes nothing but the places behind it, in plain lists. No walk. · A blank where a token begins: the tokens from there on stand one place further, whatever the last one is; what is read out of them is the same, a wrong place one further. Plain facts. · A text in brackets: its tokens are the bracket, the text's own ones a place further, the other bracket and the end. Plain facts. · What is read out of a text in brackets: the same, or it is too deep, and then there are 32 brackets in it. Plain facts. -/
import Derived.Test.YtcmjhjnpcogmgaaGreatDoorQMore
import Derived.Test.YtcmjhjnpcogmgaaGreatDoorQLALKLG
import Derived.Test.YtcmjhjnpcogmgaaGreatDoorQZIZM
import Derived.Test.YtcmjhjnpcogmgaaGreatDoorQZVZV2ZV3ZV4ZV5
namespace Go.Proofs.YtcmjhjnpcogmgaaGreatDoor
open Go.RowKit
set_option linter.all false
/-- What may stand behind a piece in the place of q1: nothing, a blank, or what begins as q1 does. -/
def NX (q1 q2 : List UInt8) : Prop := q2 = [] ∨ (∃ t, q2 = 32 :: t) ∨ (∃ c t1 t2, q1 = c :: t1 ∧ q2 = c :: t2)
theorem NX.fol {q1 q2 cs : List UInt8} (h : NX q1 q2) (hc : cs.contains 32 = false) (h1 : bgn q1 cs = false) : bgn q2 cs = false := by
  rcases h with rfl | ⟨t, rfl⟩ | ⟨c, t1, t2, rfl, rfl⟩
  · rfl
  · exact hc
  · exact h1
theorem run_iff (p q cs : List UInt8) : runL (p ++ q) cs = p.length ↔ ((∀ c ∈ p, cs.contains c = true) ∧ bgn q cs = false) := by
  induction p with
  | nil =>
    cases q with
    | nil => simp [runL, bgn]
    | cons c t =>
      simp only [List.nil_append, List.length_nil, bgn, runL]
      rw [List.takeWhile_cons]
      cases hc : cs.contains c
      · exact ⟨fun _ => ⟨fun d hd => by simp at hd, rfl⟩, fun _ => rfl⟩
      · constructor
        · intro h; simp at h
        · intro h; exact absurd h.2 (by simp)
  | cons a r ih =>
    simp only [List.cons_append, List.length_cons, runL] at ih ⊢
    cases ha : cs.contains a
    · rw [List.takeWhile_cons, ha]
      constructor
      · intro h; simp at h
      · intro h; have := h.1 a (by simp); rw [ha] at this; simp at this
    · rw [List.takeWhile_cons, ha]
      simp only [if_true, List.length_cons, Nat.add_right_cancel_iff, List.mem_cons, forall_eq_or_imp, ha, true_and]
      exact ih
theorem run_in (p q cs : List UInt8) (h : runL (p ++ q) cs < p.length) : ∀ q2, runL (p ++ q2) cs = runL (p ++ q) cs := by
  induction p with
  | nil => simp at h
  | cons a r ih =>
    intro q2
    simp only [List.cons_append, List.length_cons, runL] at ih h ⊢
    cases ha : cs.contains a
    · rw [List.takeWhile_cons, List.takeWhile_cons, ha]; rfl
    · rw [List.takeWhile_cons, ha] at h
      rw [List.takeWhile_cons, List.takeWhile_cons, ha]
      simp only [if_true, List.length_cons, Nat.add_right_cancel_iff] at h ⊢
      exact ih (by omega) q2
theorem NX.fol_q0 {q1 q2 : List UInt8} (h : NX q1 q2) (h1 : bgn q1 [34] = false) : bgn q2 [34] = false := h.fol (by decide) h1
theorem qr_end : ∀ (p q1 : List UInt8), qrL (p ++ q1) = p.length → p.count 34 % 2 = 1 → bgn q1 [34] = false
  | [], q1, _, h2 => by simp at h2
  | [c], q1, h1, h2 => by
    have hc : c = 34 := by
      apply Classical.byContradiction
      intro hn
      rw [List.count_cons_of_ne (by simpa using hn)] at h2
      simp at h2
    subst hc
    cases q1 with
    | nil => rfl
    | cons d t =>
      by_cases hd : d = 34
      · subst hd
        have h1' : (if (34 : UInt8) = 34 then (if (34 : UInt8) = 34 then 2 + qrL t else 1) else 1 + qrL (34 :: t)) = 1 := h1
        simp at h1'
        omega
      · simpa [bgn] using hd
  | c :: d :: t, q1, h1, h2 => by
    simp only [List.cons_append, List.length_cons, qrL] at h1
    by_cases hc : c = 34
    · subst hc
      by_cases hd : d = 34
      · subst hd
        rw [if_pos rfl, if_pos rfl] at h1
        rw [List.count_cons_self, List.count_cons_self] at h2
        exact qr_end t q1 (by omega) (by omega)
      · rw [if_pos rfl, if_neg hd] at h1; omega
    · rw [if_neg hc] at h1
      rw [List.count_cons_of_ne (by simpa using hc)] at h2
      exact qr_end (d :: t) q1 (by simp only [List.cons_append, List.length_cons]; omega) h2
theorem qr_ext : ∀ (p q1 q2 : List UInt8), qrL (p ++ q1) = p.length → p.count 34 % 2 = 1 → bgn q2 [34] = false → qrL (p ++ q2) = p.length
  | [], q1, q2, _, h2, _ => by simp at h2
  | [c], q1, q2, h1, h2, h3 => by
    have hc : c = 34 := by
      apply Classical.byContradiction
      intro hn
      rw [List.count_cons_of_ne (by simpa using hn)] at h2
      simp at h2
    subst hc
    cases q2 with
    | nil => rfl
    | cons d t =>
      have hd : ¬ d = 34 := by simpa [bgn] using h3
      simp [qrL, hd]
  | c :: d :: t, q1, q2, h1, h2, h3 => by
    simp only [List.cons_append, List.length_cons, qrL] at h1 ⊢
    by_cases hc : c = 34
    · subst hc
      by_cases hd : d = 34
      · subst hd
        rw [if_pos rfl, if_pos rfl] at h1 ⊢
        rw [List.count_cons_self, List.count_cons_self] at h2
        have := qr_ext t q1 q2 (by omega) (by omega) h3
        omega
      · rw [if_pos rfl, if_neg hd] at h1; omega
    · rw [if_neg hc] at h1 ⊢
      rw [List.count_cons_of_ne (by simpa using hc)] at h2
      have := qr_ext (d :: t) q1 q2 (by simp only [List.cons_append, List.length_cons]; omega) h2 h3
      simp only [List.cons_append, List.length_cons] at this
      omega
theorem idx_appL (p q : List UInt8) (c : UInt8) (h : c ∈ p) : Lib.indexByte (p ++ q) c = Lib.indexByte p c := by
  induction p with
  | nil => simp at h
  | cons a r ih =>
    by_cases ha : a = c
    · subst ha; simp [Lib.indexByte]
    · have hr : c ∈ r := by
        rcases List.mem_cons.1 h with e | e
        · exact absurd e.symm ha
        · exact e
      have e := ih hr
      simp [Lib.indexByte, ha, e]
theorem named_has (s : ByteArray) (h : Vv.namedOk s = true) : (33 : UInt8) ∈ s.data.toList := by
  unfold Vv.namedOk Vv.namedC at h
  have key : ∀ k : Int, (k = 1 ∨ k = 2 ∨ k = 3 ∨ k = 4 ∨ k = 5 ∨ k = 6 ∨ k = 7 ∨ k = 8) → (33 : UInt8) ∈ (Vv.nameB k).data.toList := by
    rintro k (rfl | rfl | rfl | rfl | rfl | rfl | rfl | rfl) <;> decide +kernel
  simp only [decide_eq_true_eq] at h
  repeat' split at h
  all_goals first | (rename_i hs; rw [← hs]; exact key _ (by decide)) | (rename_i hs; exact absurd rfl h) | (exact absurd rfl h)
theorem fr_ext (p q1 q2 : List UInt8) (h : frL (p ++ q1) = p.length) (hm : (33 : UInt8) ∈ p) : frL (p ++ q2) = p.length := by
  unfold frL at h ⊢
  rw [idx_appL p q1 33 hm] at h
  rw [idx_appL p q2 33 hm]
  have h0 := (idx_mem 33 p).2 hm
  rw [if_pos h0] at h ⊢
  exact h
theorem bgn_app {p q : List UInt8} (hp : p ≠ []) (cs : List UInt8) : bgn (p ++ q) cs = bgn p cs := by
  cases p with
  | nil => exact absurd rfl hp
  | cons a r => rfl
end Go.Proofs.YtcmjhjnpcogmgaaGreatDoor
namespace Go.Proofs.YtcmjhjnpcogmgaaGreatDoor
open Go.RowKit
set_option linter.all false
theorem dropB_take (l : List UInt8) : l = l.takeWhile ([32].contains ·) ++ dropB l := (List.takeWhile_append_dropWhile).symm
theorem dropB_head (l : List UInt8) : bgn (dropB l) [32] = false := by
  unfold dropB
  induction l with
  | nil => rfl
  | cons c t ih =>
    cases hc : [32].contains c
    · rw [List.dropWhile_cons, hc]; exact hc
    · rw [List.dropWhile_cons, hc]; exact ih
theorem dropB_id {l : List UInt8} (h : bgn l [32] = false) : dropB l = l := by
  cases l with
  | nil => rfl
  | cons c t => unfold dropB; rw [List.dropWhile_cons]; have h' : [32].contains c = false := h; rw [h']; rfl
theorem dropB_app (b l : List UInt8) (hb : ∀ c ∈ b, [32].contains c = true) (h : bgn l [32] = false) : dropB (b ++ l) = l := by
  induction b with
  | nil => exact dropB_id h
  | cons c t ih =>
    unfold dropB at ih ⊢
    rw [List.cons_append, List.dropWhile_cons, hb c (by simp)]
    exact ih (fun d hd => hb d (by simp [hd]))
theorem take_blank (l : List UInt8) : ∀ c ∈ l.takeWhile ([32].contains ·), [32].contains c = true := fun c hc => by
  have h := List.all_takeWhile (p := ([32].contains ·)) (l := l)
  exact List.all_eq_true.1 h c hc
end Go.Proofs.YtcmjhjnpcogmgaaGreatDoor
namespace Go.Proofs.YtcmjhjnpcogmgaaGreatDoor
open Go.RowKit
set_option linter.all false
def incP (y : Nat × List UInt8) : Nat × List UInt8 := (y.1 + 1, y.2)
theorem pcs_n : ∀ (f : Nat) (rest : List UInt8) (n : Nat), rest.length ≤ n → pcs f rest (n + 1) = (pcs f rest n).map incP
  | 0, rest, n, h => rfl
  | f + 1, rest, n, h => by
    rw [pcs_succ, pcs_succ, List.map_cons]
    have hd := dropB_le rest
    have e : (n + 1 - (dropB rest).length, (dropB rest).take (reachL (dropB rest))) = incP (n - (dropB rest).length, (dropB rest).take (reachL (dropB rest))) := by
      unfold incP; congr 1; dsimp only; omega
    rw [e]
    congr 1
    split
    · rfl
    · exact pcs_n f _ n (by rw [List.length_drop]; omega)
def incT (t : Tk) : Tk := ⟨t.kind, t.at' + 1, t.num, t.str, t.c0, t.c1, t.r0, t.r1, t.r2, t.r3, t.code⟩
/-- The tokens with those from the k-th on one place further. -/
def bump (k : Nat) (l : List Tk) : List Tk := l.take k ++ (l.drop k).map incT
end Go.Proofs.YtcmjhjnpcogmgaaGreatDoor
namespace Go.Proofs.YtcmjhjnpcogmgaaGreatDoor
open Go.RowKit
set_option linter.all false
def mapT (f : Int → Int) (t : Tk) : Tk := ⟨t.kind, f t.at', t.num, t.str, t.c0, t.c1, t.r0, t.r1, t.r2, t.r3, t.code⟩
def mapW (f : Int → Int) (x : Wt) : Wt := ⟨x.op, f x.at'⟩
def mapL (f : Int → Int) (l : Lv) : Lv := ⟨mapT f l.nm, l.rl, l.out.map (mapW f)⟩
def mapS (f : Int → Int) (s : St) : St := ⟨s.pl, mapT f s.nm, s.ns, s.op.map (mapL f), s.cur.map (mapW f)⟩
def mapR (f : Int → Int) (r : Rs) : Rs := match r with
  | .ok s => .ok (mapS f s)
  | .error e => .error (e.1, f e.2)
theorem map_then {f : Int → Int} {r : Rs} {g g' : St → Rs} (h : ∀ u, g' (mapS f u) = mapR f (g u)) : thenS (mapR f r) g' = mapR f (thenS r g) := by
  cases r with
  | ok u => exact h u
  | error e => rfl
theorem map_add (f : Int → Int) (s : St) (n : Rf.Nd) (a : Int) : addS (mapS f s) n (f a) = mapR f (addS s n a) := by
  unfold addS
  show (if s.ns.length = 1024 then _ else _) = _
  split <;> rfl
theorem map_open (f : Int → Int) (s : St) (a : Int) (nm nm' : Tk) (hn : nm' = mapT f nm) : openS (mapS f s) (f a) nm' = mapR f (openS s a nm) := by
  subst hn
  unfold openS
  have e : (mapS f s).op.length = s.op.length := by simp [mapS]
  rw [e]
  split <;> rfl
theorem map_next (f : Int → Int) (s : St) (a : Int) : nextS (mapS f s) (f a) = mapR f (nextS s a) := by
  unfold nextS
  cases ho : s.op with
  | nil =>
    have e : (mapS f s).op = [] := by simp [mapS, ho]
    rw [e]; rfl
  | cons l r =>
    have e : (mapS f s).op = mapL f l :: r.map (mapL f) := by simp [mapS, ho]
    rw [e]
    show (if l.nm.kind = 3 ∧ l.rl.length ≠ 15 then _ else _) = _
    dsimp only
    split <;> rfl
theorem map_close {T : ByteArray → List Bool → Bool} (f : Int → Int) (s : St) (a : Int) : closeS T (mapS f s) (f a) = mapR f (closeS T s a) := by
  unfold closeS
  cases ho : s.op with
  | nil =>
    have e : (mapS f s).op = [] := by simp [mapS, ho]
    rw [e]; rfl
  | cons l r =>
    have e : (mapS f s).op = mapL f l :: r.map (mapL f) := by simp [mapS, ho]
    rw [e]
    dsimp only
    have e2 : (⟨(mapS f s).pl, (mapS f s).nm, (mapS f s).ns, r.map (mapL f), (mapS f s).cur ++ (mapL f l).out⟩ : St) = mapS f ⟨s.pl, s.nm, s.ns, r, s.cur ++ l.out⟩ := by simp [mapS, mapL]
    show (if l.nm.kind = 3 then _ else _) = _
    split
    · rw [e2]
      show thenS (callS T _ (mapT f l.nm) (if s.pl = 2 then l.rl else l.rl ++ [s.pl == 5])) _ = _
      generalize (if s.pl = 2 then l.rl else l.rl ++ [s.pl == 5]) = rl
      rw [← map_then (f := f) (g' := fun u => .ok (u.to 4)) (fun u => rfl)]
      congr 1
      unfold callS
      show (if T l.nm.str rl = true then _ else _) = _
      split
      · exact map_add f _ _ _
      · rfl
    · show Except.ok _ = Except.ok _
      congr 1
      simp [mapS, mapL]
theorem map_wk (f : Int → Int) (lev : Int) : ∀ (c : List Wt) (ns : List Rf.Nd), wkS lev (c.map (mapW f)) ns = (match wkS lev c ns with | .ok (c', n') => .ok (c'.map (mapW f), n') | .error a => .error (f a))
  | [], ns => rfl
  | x :: r, ns => by
    rw [List.map_cons]
    unfold wkS
    show (if lev ≤ Rf.levI x.op then _ else _) = _
    by_cases h : lev ≤ Rf.levI x.op
    · rw [if_pos h, if_pos h]
      by_cases h2 : ns.length = 1024
      · rw [if_pos h2, if_pos h2]; rfl
      · rw [if_neg h2, if_neg h2]; exact map_wk f lev r _
    · rw [if_neg h, if_neg h]; rfl
theorem map_work (f : Int → Int) (s : St) (lev : Int) : workS (mapS f s) lev = mapR f (workS s lev) := by
  unfold workS
  have e : (mapS f s).cur = s.cur.map (mapW f) := rfl
  have e2 : (mapS f s).ns = s.ns := rfl
  rw [e, e2, map_wk]
  cases wkS lev s.cur s.ns with
  | error a => rfl
  | ok cn => rfl
theorem map_ending {T : ByteArray → List Bool → Bool} (f : Int → Int) (s : St) (t : Tk) : endingS T (mapS f s) (mapT f t) = mapR f (endingS T s t) := by
  unfold endingS
  have e : ∀ x, sgB (mapT f t) x = sgB t x := fun _ => rfl
  rw [e, e]
  show (if _ then nextS (mapS f s) (f t.at') else if _ then closeS T (mapS f s) (f t.at') else if t.kind = 0 ∧ (mapS f s).op = [] then _ else _) = _
  have e2 : (mapS f s).op = [] ↔ s.op = [] := by simp [mapS]
  rw [map_next, map_close]
  split
  · rfl
  · split
    · rfl
    · by_cases hc : t.kind = 0 ∧ s.op = []
      · rw [if_pos hc, if_pos ⟨hc.1, e2.2 hc.2⟩]; rfl
      · rw [if_neg hc, if_neg (fun h => hc ⟨h.1, e2.1 h.2⟩)]; rfl
theorem map_step {K : ByteArray → Bool} {T : ByteArray → List Bool → Bool} (f : Int → Int) (h0 : f 0 = 0) (s : St) (t : Tk) : stepS K T (mapS f s) (mapT f t) = mapR f (stepS K T s t) := by
  have e : ∀ x, sgB (mapT f t) x = sgB t x := fun _ => rfl
  have el : leafN (mapT f t) = leafN t := rfl
  have eo : oprI (mapT f t) = oprI t := rfl
  have ep : (mapS f s).pl = s.pl := rfl
  have ek : (mapT f t).kind = t.kind := rfl
  have ea : (mapT f t).at' = f t.at' := rfl
  have es : (mapT f t).str = t.str := rfl
  have er : rectNd (mapT f t) = rectNd t := rfl
  unfold stepS
  simp only [e, ep, ek, ea, er]
  by_cases c1 : s.pl = 2 ∧ sgB t ⟨#[41]⟩ = true
  · rw [if_pos c1, if_pos c1]; exact map_close f s _
  rw [if_neg c1, if_neg c1]
  by_cases c2 : (s.pl = 2 ∨ s.pl = 1) ∧ t.kind = 5
  · rw [if_pos c2, if_pos c2, map_add]; exact map_then (fun u => rfl)
  rw [if_neg c2, if_neg c2]
  by_cases c3 : s.pl = 2 ∨ s.pl = 1 ∨ s.pl = 0
  · rw [if_pos c3, if_pos c3]
    unfold thingS
    simp only [el, e, ek, ea]
    cases leafN t with
    | some n =>
      dsimp only
      rw [map_add]; exact map_then (fun u => rfl)
    | none =>
      dsimp only
      by_cases d1 : t.kind = 3
      · rw [if_pos d1, if_pos d1]
        unfold namS
        simp only [es, ea]
        by_cases d2 : mayNm t.str = true ∧ K t.str = true
        · rw [if_pos d2, if_pos d2]; rfl
        · rw [if_neg d2, if_neg d2]; rfl
      · rw [if_neg d1, if_neg d1]
        by_cases d3 : sgB t ⟨#[40]⟩ = true
        · rw [if_pos d3, if_pos d3, map_open f s t.at' (tk0 0) (tk0 0) (by unfold mapT tk0; simp [h0])]; exact map_then (fun u => rfl)
        · rw [if_neg d3, if_neg d3]
          by_cases d4 : sgB t ⟨#[45]⟩ = true
          · rw [if_pos d4, if_pos d4]; rfl
          · rw [if_neg d4, if_neg d4]; rfl
  rw [if_neg c3, if_neg c3]
  by_cases c4 : s.pl = 3
  · rw [if_pos c4, if_pos c4]
    unfold openingS
    simp only [e, ea]
    by_cases d3 : sgB t ⟨#[40]⟩ = true
    · rw [if_pos d3, if_pos d3]
      rw [map_open f s t.at' s.nm (mapS f s).nm rfl]; exact map_then (fun u => rfl)
    · rw [if_neg d3, if_neg d3]; rfl
  rw [if_neg c4, if_neg c4]
  by_cases c5 : s.pl = 4
  · rw [if_pos c5, if_pos c5]
    unfold workingS
    simp only [e, eo, ea]
    by_cases d3 : sgB t ⟨#[37]⟩ = true
    · rw [if_pos d3, if_pos d3]; exact map_add f s _ _
    · rw [if_neg d3, if_neg d3]
      cases oprI t with
      | none => dsimp only; rw [map_work]; exact map_then (fun u => map_ending f u t)
      | some i => dsimp only; rw [map_work]; exact map_then (fun u => rfl)
  rw [if_neg c5, if_neg c5]
  exact map_ending f s t
theorem map_run {K : ByteArray → Bool} {T : ByteArray → List Bool → Bool} (f : Int → Int) (h0 : f 0 = 0) : ∀ (l : List Tk) (s : St), runS K T (mapS f s) (l.map (mapT f)) = mapR f (runS K T s l)
  | [], s => rfl
  | t :: l, s => by
    show thenS (stepS K T (mapS f s) (mapT f t)) (fun u => runS K T u (l.map (mapT f))) = mapR f (thenS (stepS K T s t) (fun u => runS K T u l))
    rw [map_step f h0]
    exact map_then (fun u => map_run f h0 l u)
/-- One place further, from a on. -/
def far (a : Int) (z : Int) : Int := if a ≤ z then z + 1 else z
end Go.Proofs.YtcmjhjnpcogmgaaGreatDoor
namespace Go.Proofs.YtcmjhjnpcogmgaaGreatDoor
open Go.RowKit
set_option linter.all false
/-- What may stand behind a piece in the place of q1: nothing, a closing bracket, or what begins as q1 does. -/
def NY (q1 q2 : List UInt8) : Prop := q2 = [] ∨ (∃ t, q2 = 41 :: t) ∨ (∃ c t1 t2, q1 = c :: t1 ∧ q2 = c :: t2)
theorem NY.fol {q1 q2 cs : List UInt8} (h : NY q1 q2) (hc : cs.contains 41 = false) (h1 : bgn q1 cs = false) : bgn q2 cs = false := by
  rcases h with rfl | ⟨t, rfl⟩ | ⟨c, t1, t2, rfl, rfl⟩
  · rfl
  · exact hc
  · exact h1
theorem NY.fol_q0 {q1 q2 : List UInt8} (h : NY q1 q2) (h1 : bgn q1 [34] = false) : bgn q2 [34] = false := h.fol (by decide) h1
theorem wr_ext1 (p q1 q2 : List UInt8) (hx : NY q1 q2) (h : wrL (p ++ q1) = p.length) : wrL (p ++ q2) = p.length := by
  have hk := runL_le (p ++ q1) WD
  unfold wrL at h
  by_cases hlt : runL (p ++ q1) WD < p.length
  · have hk2 := run_in p q1 WD hlt q2
    unfold wrL
    rw [hk2]
    revert h hlt
    generalize runL (p ++ q1) WD = k
    intro h hlt
    rw [List.take_append_of_le_length (by omega), List.drop_append_of_le_length (by omega)] at h
    rw [List.take_append_of_le_length (by omega), List.drop_append_of_le_length (by omega)]
    have hd : p.drop k ≠ [] := fun e => by have := congrArg List.length e; simp at this; omega
    rw [bgn_app hd] at h ⊢
    by_cases hc : (meant (p.take k) && bgn (p.drop k) [58]) = true
    · rw [if_pos hc] at h ⊢
      rw [List.drop_append_of_le_length (by omega)] at h ⊢
      have hl : (p.drop (k + 1)).length = p.length - (k + 1) := List.length_drop ..
      have h2 := (run_iff (p.drop (k + 1)) q1 WD).1 (by omega)
      have h3 := (run_iff (p.drop (k + 1)) q2 WD).2 ⟨h2.1, hx.fol (by decide) h2.2⟩
      omega
    · rw [if_neg hc] at h; omega
  · have hke : runL (p ++ q1) WD = p.length := by
      split at h
      · omega
      · exact h
    have h2 := (run_iff p q1 WD).1 hke
    have hk2 := (run_iff p q2 WD).2 ⟨h2.1, hx.fol (by decide) h2.2⟩
    rw [hke] at h
    unfold wrL
    rw [hk2]
    rw [List.take_left', List.drop_left'] at h ⊢
    all_goals try rfl
    by_cases hc : (meant p && bgn q1 [58]) = true
    · rw [if_pos hc] at h; omega
    · have hc2 : ¬ (meant p && bgn q2 [58]) = true := by
        intro e
        simp only [Bool.and_eq_true] at e hc
        apply hc
        refine ⟨e.1, ?_⟩
        rcases hx with rfl | ⟨t, rfl⟩ | ⟨c, t1, t2, rfl, rfl⟩
        · simp [bgn] at e
        · simp [bgn] at e
        · exact e.2
      rw [if_neg hc2]
theorem two_ext1 (c : UInt8) (q1 q2 : List UInt8) (hx : NY q1 q2) (h : twoL (c :: q1) = false) : twoL (c :: q2) = false := by
  rcases hx with rfl | ⟨t, rfl⟩ | ⟨d, t1, t2, rfl, rfl⟩
  · simp [twoL, List.isPrefixOf]
  · simp [twoL, List.isPrefixOf]
  · simpa [twoL, List.isPrefixOf] using h
theorem reach_ext1 (p q1 q2 : List UInt8) (hp : p ≠ []) (hx : NY q1 q2) (h : reachL (p ++ q1) = p.length) (hk : (rdT (bs p)).kind ≠ 8) : reachL (p ++ q2) = p.length := by
  have hne : ∀ q, p ++ q ≠ [] := fun q e => hp (List.append_eq_nil_iff.1 e).1
  unfold rdT at hk
  rw [bs_data, if_neg hp] at hk
  unfold reachL at h ⊢
  rw [if_neg (hne _)] at h ⊢
  rw [bgn_app hp, bgn_app hp, bgn_app hp, bgn_app hp] at h ⊢
  by_cases b1 : bgn p DG = true
  · rw [if_pos b1] at h ⊢
    have h2 := (run_iff p q1 NB).1 h
    exact (run_iff p q2 NB).2 ⟨h2.1, hx.fol (by decide) h2.2⟩
  · rw [if_neg b1] at h hk ⊢
    by_cases b2 : bgn p [34] = true
    · rw [if_pos b2] at h hk ⊢
      cases p with
      | nil => exact absurd rfl hp
      | cons c r =>
        have hc : c = 34 := by simpa [bgn] using b2
        subst hc
        simp only [List.cons_append, List.drop_succ_cons, List.drop_zero, List.length_cons] at h ⊢
        have hcnt : Lib.countByte (34 :: r) 34 % 2 = 0 := by
          apply Classical.byContradiction
          intro hn
          apply hk
          unfold rdQ
          rw [if_neg hn]; rfl
        unfold Lib.countByte at hcnt
        rw [List.count_cons_self] at hcnt
        have := qr_ext r q1 q2 (by omega) (by omega) (hx.fol_q0 (qr_end r q1 (by omega) (by omega)))
        omega
    · rw [if_neg b2] at h hk ⊢
      by_cases b3 : bgn p [35] = true
      · rw [if_pos b3] at h hk ⊢
        refine fr_ext p q1 q2 h ?_
        have hn : Vv.namedOk (bs p) = true := by
          cases hn : Vv.namedOk (bs p)
          · exact absurd (by unfold rdF; rw [hn]; rfl) hk
          · rfl
        have := named_has _ hn
        rwa [bs_data] at this
      · rw [if_neg b3] at h hk ⊢
        by_cases b4 : bgn p LT = true
        · rw [if_pos b4] at h ⊢
          exact wr_ext1 p q1 q2 hx h
        · rw [if_neg b4] at h ⊢
          cases p with
          | nil => exact absurd rfl hp
          | cons c r =>
            by_cases b5 : twoL (c :: r ++ q1) = true
            · rw [if_pos b5] at h
              simp only [List.length_cons] at h
              match r, h with
              | [d], _ =>
                have e : twoL ([c, d] ++ q2) = true := by simpa [twoL, List.isPrefixOf] using b5
                rw [if_pos e]; rfl
            · rw [if_neg b5] at h
              simp only [List.length_cons] at h
              have hr : r = [] := List.length_eq_zero_iff.1 (by omega)
              subst hr
              have e := two_ext1 c q1 q2 hx (by simpa using b5)
              rw [if_neg (by simpa using e)]; rfl

theorem NY.tail (q : List UInt8) : NY q (q ++ [41]) := by
  cases q with
  | nil => exact .inr (.inl ⟨[], rfl⟩)
  | cons c t => exact .inr (.inr ⟨c, t, t ++ [41], rfl, rfl⟩)
theorem pcs_ne {f : Nat} {rest : List UInt8} {n : Nat} (h : rest.length < f) : pcs f rest n ≠ [] := by
  cases f with
  | zero => omega
  | succ f => rw [pcs_succ]; simp
theorem pcs_end (f n : Nat) : pcs (f + 1) [] n = [(n, [])] := by
  rw [pcs_succ]
  have e : dropB [] = [] := rfl
  rw [e]; simp
theorem pcs_tail : ∀ (f : Nat) (rest : List UInt8) (n : Nat), rest.length < f → rest.length ≤ n → (∀ y ∈ pcs f rest n, (rdT (bs y.2)).kind ≠ 8) →
    pcs (f + 1) (rest ++ [41]) (n + 1) = (pcs f rest n).dropLast ++ [(n, [41]), (n + 1, [])]
  | 0, rest, n, h, _, _ => absurd h (by omega)
  | f + 1, rest, n, h, hn, hw => by
    have hd := dropB_le rest
    have hsp := dropB_take rest
    have hb := take_blank rest
    have hh := dropB_head rest
    rw [pcs_succ f rest n] at hw ⊢
    revert hsp hb hh hw hd
    generalize dropB rest = r
    generalize rest.takeWhile ([32].contains ·) = b
    intro hw hd hsp hb hh
    have hspl := congrArg List.length hsp
    rw [List.length_append] at hspl
    by_cases hr : r = []
    · subst hr
      have e : dropB (rest ++ [41]) = [41] := by
        rw [hsp]; simp only [List.append_nil]
        exact dropB_app b [41] hb (by decide)
      have e1 : reachL [41] = 1 := by decide +kernel
      rw [pcs_succ, e, e1]
      have e2 : pcs (f + 1) (List.drop 1 [41]) (n + 1) = [(n + 1, [])] := pcs_end f (n + 1)
      rw [e2]
      simp [reachL_nil]
    · have hp := reachL_pos hr
      have hl := len_pos hr
      have hle := reachL_le r
      have hpn : r.take (reachL r) ≠ [] := fun e => hr ((take_nil_iff _).1 e)
      rw [if_neg hpn] at hw ⊢
      have hql : (r.drop (reachL r)).length = r.length - reachL r := List.length_drop ..
      have ih := pcs_tail f (r.drop (reachL r)) n (by omega) (by omega) (fun y hy => hw y (List.mem_cons_of_mem _ hy))
      have hpl : (r.take (reachL r)).length = reachL r := by rw [List.length_take]; omega
      have hk8 := hw (n - r.length, r.take (reachL r)) List.mem_cons_self
      dsimp only at hk8
      have hrr : r ++ [41] = r.take (reachL r) ++ (r.drop (reachL r) ++ [41]) := by rw [← List.append_assoc, List.take_append_drop]
      have e : dropB (rest ++ [41]) = r ++ [41] := by
        rw [hsp, List.append_assoc]
        exact dropB_app b _ hb (by rw [bgn_app hr]; exact hh)
      have hreach : reachL (r ++ [41]) = (r.take (reachL r)).length := by
        rw [hrr]
        exact reach_ext1 _ (r.drop (reachL r)) _ hpn (NY.tail _) (by rw [List.take_append_drop, hpl]) hk8
      have e4 : n + 1 - (r ++ [41]).length = n - r.length := by rw [List.length_append]; simp; 
      rw [pcs_succ, e, hreach, e4, hrr, List.take_left, List.drop_left, if_neg hpn, ih]
      rw [List.dropLast_cons_of_ne_nil (pcs_ne (by omega))]
      rfl
theorem pcs_last : ∀ (f : Nat) (rest : List UInt8) (n : Nat), rest.length < f → (pcs f rest n).getLast? = some (n, [])
  | 0, rest, n, h => absurd h (by omega)
  | f + 1, rest, n, h => by
    have hd := dropB_le rest
    rw [pcs_succ]
    by_cases hr : dropB rest = []
    · rw [hr, if_pos (by simp)]; simp
    · have hp := reachL_pos hr
      have hl := len_pos hr
      have hpn : (dropB rest).take (reachL (dropB rest)) ≠ [] := fun e => hr ((take_nil_iff _).1 e)
      rw [if_neg hpn, List.getLast?_cons]
      have := pcs_last f ((dropB rest).drop (reachL (dropB rest))) n (by rw [List.length_drop]; omega)
      rw [this]; rfl
theorem pcs_lo : ∀ (f : Nat) (rest : List UInt8) (n : Nat), rest.length ≤ n → ∀ y ∈ pcs f rest n, n - rest.length ≤ y.1
  | 0, rest, n, h, y, hy => by simp [pcs] at hy
  | f + 1, rest, n, h, y, hy => by
    have hd := dropB_le rest
    rw [pcs_succ] at hy
    rcases List.mem_cons.1 hy with e | e
    · rw [e]; dsimp only; omega
    · split at e
      · simp at e
      · have := pcs_lo f _ n (by rw [List.length_drop]; omega) y e
        rw [List.length_drop] at this
        omega
theorem cutW_clean : ∀ l : List Tk, (∀ t ∈ cutW l, t.kind ≠ 8) → cutW l = l ∧ ∀ t ∈ l, t.kind ≠ 8
  | [], _ => ⟨rfl, fun t h => by simp at h⟩
  | t :: r, h => by
    have h0 := h t (by simp [cutW])
    have e : cutW (t :: r) = t :: cutW r := by simp [cutW, h0]
    rw [e] at h ⊢
    obtain ⟨h1, h2⟩ := cutW_clean r (fun u hu => h u (List.mem_cons_of_mem _ hu))
    rw [h1]
    exact ⟨rfl, fun u hu => by rcases List.mem_cons.1 hu with e | e; rw [e]; exact h0; exact h2 u e⟩
theorem cutW_same : ∀ l : List Tk, (∀ t ∈ l, t.kind ≠ 8) → cutW l = l
  | [], _ => rfl
  | t :: r, h => by
    have h0 := h t List.mem_cons_self
    rw [cutW, if_neg h0, cutW_same r (fun u hu => h u (List.mem_cons_of_mem _ hu))]
/-- The text in brackets. -/
def brkL (x : ByteArray) : ByteArray := ⟨([61, 40] ++ x.data.toList.drop 1 ++ [41]).toArray⟩
def tkA (n : Nat) : Tk := tkSet (rdT (bs [40])) n
def tkB (n : Nat) : Tk := tkSet (rdT (bs [41])) n
theorem reach_40 (t : List UInt8) : reachL (40 :: t) = 1 := by
  unfold reachL
  simp [bgn, DG, LT, twoL, List.isPrefixOf]
theorem map_far_inc {y : Nat × List UInt8} (h : 1 ≤ y.1) : tkAt (incP y) = mapT (far 1) (tkAt y) := by
  unfold tkAt incP mapT tkSet far
  dsimp only
  rw [if_pos (by omega)]
  rfl
theorem brk_toks {x : ByteArray} (hF : isF x = true) (hk : ∀ t ∈ toks x, t.kind ≠ 8) : ∃ L : List Tk, L = (pcsOf x).dropLast.map tkAt ∧ (∀ t ∈ L, 1 ≤ t.at') ∧ toks x = L ++ [tkSet (tk0 0) x.size] ∧
    toks (brkL x) = tkA 1 :: (L.map (mapT (far 1)) ++ [tkB (x.size + 1), tkSet (tk0 0) (x.size + 2)]) := by
  have hT : toks x = cutW ((pcsOf x).map tkAt) := by unfold toks; rw [if_pos hF]
  rw [hT] at hk
  obtain ⟨hc, hall⟩ := cutW_clean _ hk
  have hs1 : 1 ≤ x.size := by
    unfold isF at hF
    have : x.size = x.data.toList.length := (Array.length_toList).symm
    rw [this]
    cases hh : x.data.toList with
    | nil => rw [hh] at hF; simp [List.isPrefixOf] at hF
    | cons c t => simp
  have hbl : (x.data.toList.drop 1).length = x.size - 1 := by rw [List.length_drop]; rw [Array.length_toList]; rfl
  revert hc hall hT
  unfold pcsOf
  generalize hbody : x.data.toList.drop 1 = body at hbl ⊢
  intro hT hc hall
  have hw : ∀ y ∈ pcs x.size body x.size, (rdT (bs y.2)).kind ≠ 8 := fun y hy => hall (tkAt y) (List.mem_map.2 ⟨y, hy, rfl⟩)
  have h1 := pcs_tail x.size body x.size (by omega) (by omega) hw
  have hlast := pcs_last x.size body x.size (by omega)
  have hne := pcs_ne (f := x.size) (rest := body) (n := x.size) (by omega)
  have hsplit : pcs x.size body x.size = (pcs x.size body x.size).dropLast ++ [(x.size, [])] := by
    have := List.dropLast_concat_getLast hne
    rw [List.getLast?_eq_some_getLast hne] at hlast
    simp only [Option.some.injEq] at hlast
    rw [hlast] at this
    exact this.symm
  have hlo : ∀ y ∈ (pcs x.size body x.size).dropLast, 1 ≤ y.1 := fun y hy => by
    have := pcs_lo x.size body x.size (by omega) y (List.dropLast_subset _ hy)
    omega
  refine ⟨(pcs x.size body x.size).dropLast.map tkAt, rfl, ?_, ?_, ?_⟩
  · intro t ht
    obtain ⟨y, hy, rfl⟩ := List.mem_map.1 ht
    have := hlo y hy
    show (1 : Int) ≤ (y.1 : Int)
    omega
  · rw [hT, hc]
    conv => lhs; rw [hsplit]
    rw [List.map_append]
    rfl
  · have hy : (brkL x).data.toList = 61 :: (40 :: (body ++ [41])) := by unfold brkL; rw [hbody]; simp
    have hyz : (brkL x).size = x.size + 2 := by
      have : (brkL x).size = (brkL x).data.toList.length := (Array.length_toList).symm
      rw [this, hy]; simp; omega
    have hyF : isF (brkL x) = true := by unfold isF; rw [hy]; rfl
    have hP : pcsOf (brkL x) = (1, [40]) :: (((pcs x.size body x.size).dropLast).map incP ++ [(x.size + 1, [41]), (x.size + 2, [])]) := by
      unfold pcsOf
      rw [hyz, hy, pcs_succ]
      have e0 : List.drop 1 (61 :: (40 :: (body ++ [41]))) = 40 :: (body ++ [41]) := rfl
      have e1 : dropB (40 :: (body ++ [41])) = 40 :: (body ++ [41]) := by simp [dropB, List.dropWhile]
      rw [e0, e1, reach_40]
      have e2 : List.drop 1 (40 :: (body ++ [41])) = body ++ [41] := rfl
      have e3 : List.take 1 (40 :: (body ++ [41])) = [40] := rfl
      rw [e2, e3, if_neg (by simp), pcs_n _ _ _ (by simp; omega), h1, List.map_append]
      have e4 : x.size + 2 - (40 :: (body ++ [41])).length = 1 := by simp; omega
      rw [e4]
      rfl
    have hM : (pcsOf (brkL x)).map tkAt = tkA 1 :: (((pcs x.size body x.size).dropLast.map tkAt).map (mapT (far 1)) ++ [tkB (x.size + 1), tkSet (tk0 0) (x.size + 2)]) := by
      rw [hP, List.map_cons, List.map_append, List.map_map, List.map_map]
      congr 1
      congr 1
      exact List.map_congr_left (fun y hy => map_far_inc (hlo y hy))
    unfold toks
    rw [if_pos hyF, hM]
    apply cutW_same
    intro t ht
    rcases List.mem_cons.1 ht with e | e
    · rw [e]; decide +kernel
    · rcases List.mem_append.1 e with e | e
      · obtain ⟨u, hu, rfl⟩ := List.mem_map.1 e
        obtain ⟨y, hy, rfl⟩ := List.mem_map.1 hu
        exact hw y (List.dropLast_subset _ hy)
      · simp only [List.mem_cons, List.not_mem_nil, or_false] at e
        rcases e with e | e <;> rw [e]
        · show (rdT (bs [41])).kind ≠ 8
          decide +kernel
        · show (0 : Int) ≠ 8
          decide
end Go.Proofs.YtcmjhjnpcogmgaaGreatDoor
namespace Go.Proofs.YtcmjhjnpcogmgaaGreatDoor
open Go.RowKit
set_option linter.all false
def botL : Lv := ⟨tk0 0, [], []⟩
def lift (s : St) : St := ⟨s.pl, s.nm, s.ns, s.op ++ [botL], s.cur⟩
def nOp (l : List Tk) : Nat := l.countP (fun t => sgB t ⟨#[40]⟩)
def LiftR (s : St) (t : Tk) (u : St) (r : Rs) : Prop := (r = .ok (lift u) ∨ (r = .error (7, t.at') ∧ s.op.length = 31 ∧ sgB t ⟨#[40]⟩ = true)) ∧ u.op.length ≤ s.op.length + (if sgB t ⟨#[40]⟩ = true then 1 else 0)
theorem close_lift {T : ByteArray → List Bool → Bool} {s u : St} {a : Int} (h : closeS T s a = .ok u) : closeS T (lift s) a = .ok (lift u) ∧ u.op.length ≤ s.op.length := by
  obtain ⟨l, r, ho, hh⟩ := closeS_ok h
  have e : (lift s).op = l :: (r ++ [botL]) := by show s.op ++ [botL] = _; rw [ho]; rfl
  rcases hh with ⟨hk, rl, hrl, hT, hn, rfl⟩ | ⟨hk, rfl⟩
  · refine ⟨?_, by rw [ho]; simp⟩
    unfold closeS
    rw [e]
    dsimp only
    rw [if_pos hk]
    show thenS (callS T ⟨s.pl, s.nm, s.ns, r ++ [botL], s.cur ++ l.out⟩ l.nm (if s.pl = 2 then l.rl else l.rl ++ [s.pl == 5])) _ = _
    rw [← hrl]
    unfold callS addS
    rw [if_pos hT, if_neg hn]
    rfl
  · refine ⟨?_, by rw [ho]; simp⟩
    unfold closeS
    rw [e]
    dsimp only
    rw [if_neg hk]
    rfl
theorem ending_lift {T : ByteArray → List Bool → Bool} {s u : St} {t : Tk} (ht : t.kind ≠ 0) (h : endingS T s t = .ok u) : endingS T (lift s) t = .ok (lift u) ∧ u.op.length ≤ s.op.length := by
  unfold endingS at h ⊢
  by_cases c1 : sgB t ⟨#[44]⟩ = true
  · rw [if_pos c1] at h ⊢
    obtain ⟨l, r, ho, hk, hl, rfl⟩ := nextS_ok h
    have e : (lift s).op = l :: (r ++ [botL]) := by show s.op ++ [botL] = _; rw [ho]; rfl
    refine ⟨?_, by rw [ho]; simp⟩
    unfold nextS
    rw [e]
    dsimp only
    rw [if_pos ⟨hk, hl⟩]
    rfl
  · rw [if_neg c1] at h ⊢
    by_cases c2 : sgB t ⟨#[41]⟩ = true
    · rw [if_pos c2] at h ⊢
      exact close_lift h
    · rw [if_neg c2] at h
      rw [if_neg (fun hh => ht hh.1)] at h
      cases h
theorem work_lift {s u : St} {lev : Int} (h : workS s lev = .ok u) : workS (lift s) lev = .ok (lift u) ∧ u.op = s.op := by
  obtain ⟨c, n, hw, rfl⟩ := workS_ok h
  refine ⟨?_, rfl⟩
  unfold workS
  show (match wkS lev s.cur s.ns with | .ok (c, n) => (.ok ⟨s.pl, s.nm, n, s.op ++ [botL], c⟩ : Rs) | .error a => .error (8, a)) = _
  rw [hw]
  rfl
theorem add_lift {s : St} {n : Rf.Nd} {a : Int} (h : s.ns.length ≠ 1024) : addS (lift s) n a = .ok (lift ⟨s.pl, s.nm, s.ns ++ [n], s.op, s.cur⟩) := by
  unfold addS
  rw [if_neg (show ¬ (lift s).ns.length = 1024 from h)]
  rfl
theorem open_lift {s : St} {t nm : Tk} (p : Int) (hs : sgB t ⟨#[40]⟩ = true) (h : s.op.length ≠ 32) : LiftR s t ((⟨s.pl, s.nm, s.ns, ⟨nm, [], s.cur⟩ :: s.op, []⟩ : St).to p) (thenS (openS (lift s) t.at' nm) (fun u => .ok (u.to p))) := by
  refine ⟨?_, by rw [if_pos hs]; simp [St.to]⟩
  by_cases h31 : s.op.length = 31
  · right
    unfold openS
    rw [if_pos (by show (s.op ++ [botL]).length = 32; simp; omega)]
    exact ⟨rfl, h31, hs⟩
  · left
    unfold openS
    rw [if_neg (by show ¬ (s.op ++ [botL]).length = 32; simp; omega)]
    rfl
theorem step_lift {K : ByteArray → Bool} {T : ByteArray → List Bool → Bool} {s u : St} {t : Tk} (ht : t.kind ≠ 0) (h : stepS K T s t = .ok u) : LiftR s t u (stepS K T (lift s) t) := by
  unfold stepS at h ⊢
  have e : (lift s).pl = s.pl := rfl
  rw [e]
  by_cases c1 : s.pl = 2 ∧ sgB t ⟨#[41]⟩ = true
  · rw [if_pos c1] at h ⊢
    have := close_lift h
    exact ⟨.inl this.1, by omega⟩
  rw [if_neg c1] at h ⊢
  by_cases c2 : (s.pl = 2 ∨ s.pl = 1) ∧ t.kind = 5
  · rw [if_pos c2] at h ⊢
    obtain ⟨v, h1, h2⟩ := thenS_ok h
    obtain ⟨hn, rfl⟩ := addS_ok h1
    cases h2
    refine ⟨.inl ?_, by simp [St.to]⟩
    rw [add_lift hn]; rfl
  rw [if_neg c2] at h ⊢
  by_cases c3 : s.pl = 2 ∨ s.pl = 1 ∨ s.pl = 0
  · rw [if_pos c3] at h ⊢
    unfold thingS at h ⊢
    cases hl : leafN t with
    | some n =>
      rw [hl] at h
      dsimp only at h ⊢
      obtain ⟨v, h1, h2⟩ := thenS_ok h
      obtain ⟨hn, rfl⟩ := addS_ok h1
      cases h2
      refine ⟨.inl ?_, by simp [St.to]⟩
      rw [add_lift hn]; rfl
    | none =>
      rw [hl] at h
      dsimp only at h ⊢
      by_cases k3 : t.kind = 3
      · rw [if_pos k3] at h ⊢
        obtain ⟨m1, m2, rfl⟩ := namS_ok h
        refine ⟨.inl ?_, by simp⟩
        unfold namS
        rw [if_pos ⟨m1, m2⟩]; rfl
      rw [if_neg k3] at h ⊢
      by_cases k4 : sgB t ⟨#[40]⟩ = true
      · rw [if_pos k4] at h ⊢
        obtain ⟨v, h1, h2⟩ := thenS_ok h
        obtain ⟨ho, rfl⟩ := openS_ok h1
        cases h2
        exact open_lift 0 k4 ho
      rw [if_neg k4] at h ⊢
      by_cases k5 : sgB t ⟨#[45]⟩ = true
      · rw [if_pos k5] at h ⊢
        cases h
        exact ⟨.inl rfl, by simp [St.to, pushS]⟩
      · rw [if_neg k5] at h
        cases h
  rw [if_neg c3] at h ⊢
  by_cases c4 : s.pl = 3
  · rw [if_pos c4] at h ⊢
    unfold openingS at h ⊢
    by_cases k4 : sgB t ⟨#[40]⟩ = true
    · rw [if_pos k4] at h ⊢
      obtain ⟨v, h1, h2⟩ := thenS_ok h
      obtain ⟨ho, rfl⟩ := openS_ok h1
      cases h2
      exact open_lift 2 k4 ho
    · rw [if_neg k4] at h
      cases h
  rw [if_neg c4] at h ⊢
  by_cases c5 : s.pl = 4
  · rw [if_pos c5] at h ⊢
    unfold workingS at h ⊢
    by_cases k7 : sgB t ⟨#[37]⟩ = true
    · rw [if_pos k7] at h ⊢
      obtain ⟨hn, rfl⟩ := addS_ok h
      exact ⟨.inl (add_lift hn), by simp⟩
    rw [if_neg k7] at h ⊢
    cases hi : oprI t with
    | none =>
      rw [hi] at h
      dsimp only at h ⊢
      obtain ⟨v, h1, h2⟩ := thenS_ok h
      obtain ⟨e1, e2⟩ := work_lift h1
      obtain ⟨e3, e4⟩ := ending_lift ht h2
      rw [e1]
      exact ⟨.inl e3, by rw [e2] at e4; omega⟩
    | some i =>
      rw [hi] at h
      dsimp only at h ⊢
      obtain ⟨v, h1, h2⟩ := thenS_ok h
      obtain ⟨e1, e2⟩ := work_lift h1
      cases h2
      rw [e1]
      exact ⟨.inl rfl, by show v.op.length ≤ _; rw [e2]; omega⟩
  · rw [if_neg c5] at h ⊢
    have := ending_lift ht h
    exact ⟨.inl this.1, by omega⟩
theorem nOp_cons (t : Tk) (l : List Tk) : nOp (t :: l) = nOp l + (if sgB t ⟨#[40]⟩ = true then 1 else 0) := by
  unfold nOp; rw [List.countP_cons]
theorem run_lift {K : ByteArray → Bool} {T : ByteArray → List Bool → Bool} : ∀ (l : List Tk) {s u : St}, (∀ t ∈ l, t.kind ≠ 0) → runS K T s l = .ok u → runS K T (lift s) l = .ok (lift u) ∨ (∃ t ∈ l, runS K T (lift s) l = .error (7, t.at') ∧ 32 ≤ s.op.length + nOp l)
  | [], s, u, _, h => by cases h; exact .inl rfl
  | t :: l, s, u, hk, h => by
    obtain ⟨v, h1, h2⟩ := thenS_ok h
    obtain ⟨hh, hb⟩ := step_lift (hk t List.mem_cons_self) h1
    rw [nOp_cons]
    rcases hh with e | ⟨e, h31, hs⟩
    · have e' : runS K T (lift s) (t :: l) = runS K T (lift v) l := by
        show thenS (stepS K T (lift s) t) (fun u => runS K T u l) = _
        rw [e]; rfl
      rw [e']
      rcases run_lift l (fun y hy => hk y (List.mem_cons_of_mem _ hy)) h2 with g | ⟨y, hy, g1, g2⟩
      · exact .inl g
      · exact .inr ⟨y, List.mem_cons_of_mem _ hy, g1, by omega⟩
    · refine .inr ⟨t, List.mem_cons_self, ?_, by rw [if_pos hs]; omega⟩
      show thenS (stepS K T (lift s) t) (fun u => runS K T u l) = _
      rw [e]; rfl
theorem rdT_sign {s : ByteArray} (h : (rdT s).kind = 7) : (rdT s).str = s := by
  unfold rdT at h ⊢
  by_cases c0 : s.data.toList = []
  · rw [if_pos c0] at h; (simp [tkNum, tkStr, tkCode, tkRect, tkCell, tk0] at h)
  rw [if_neg c0] at h ⊢
  by_cases c1 : bgn s.data.toList DG = true
  · rw [if_pos c1] at h; unfold rdNum at h; split at h <;> (simp [tkNum, tkStr, tkCode, tkRect, tkCell, tk0] at h)
  rw [if_neg c1] at h ⊢
  by_cases c2 : bgn s.data.toList [34] = true
  · rw [if_pos c2] at h; unfold rdQ at h; split at h <;> (simp [tkNum, tkStr, tkCode, tkRect, tkCell, tk0] at h)
  rw [if_neg c2] at h ⊢
  by_cases c3 : bgn s.data.toList [35] = true
  · rw [if_pos c3] at h; unfold rdF at h; split at h <;> (simp [tkNum, tkStr, tkCode, tkRect, tkCell, tk0] at h)
  rw [if_neg c3] at h ⊢
  by_cases c4 : bgn s.data.toList LT = true
  · rw [if_pos c4] at h
    unfold rdW at h
    split at h
    · unfold rdRect at h; split at h <;> (simp [tkNum, tkStr, tkCode, tkRect, tkCell, tk0] at h)
    · split at h
      · unfold rdCell at h; split at h <;> (simp [tkNum, tkStr, tkCode, tkRect, tkCell, tk0] at h)
      · (simp [tkNum, tkStr, tkCode, tkRect, tkCell, tk0] at h)
  rw [if_neg c4] at h ⊢
  by_cases c5 : bgn s.data.toList SG = true
  · rw [if_pos c5]; rfl
  · rw [if_neg c5] at h; (simp [tkNum, tkStr, tkCode, tkRect, tkCell, tk0] at h)
theorem sg_has {y : Nat × List UInt8} (h : sgB (tkAt y) ⟨#[40]⟩ = true) : y.2 = [40] := by
  unfold sgB at h
  simp only [Bool.and_eq_true, beq_iff_eq] at h
  have h1 : (rdT (bs y.2)).kind = 7 := h.1
  have h2 := Vv.toList_inj h.2
  have h3 : (rdT (bs y.2)).str = ⟨#[40]⟩ := h2
  rw [rdT_sign h1] at h3
  have := congrArg (fun z => z.data.toList) h3
  simpa [bs] using this
theorem pcs_cnt : ∀ (f : Nat) (rest : List UInt8) (n : Nat), nOp ((pcs f rest n).map tkAt) ≤ rest.count 40
  | 0, rest, n => by simp [pcs, nOp]
  | f + 1, rest, n => by
    have hsp := dropB_take rest
    rw [pcs_succ, List.map_cons, nOp_cons]
    have hc : rest.count 40 = (rest.takeWhile ([32].contains ·)).count 40 + (dropB rest).count 40 := by
      conv => lhs; rw [hsp]
      rw [List.count_append]
    revert hc
    generalize dropB rest = r
    intro hc
    have hr : r.count 40 = (r.take (reachL r)).count 40 + (r.drop (reachL r)).count 40 := by rw [← List.count_append, List.take_append_drop]
    have hh : (if sgB (tkAt (n - r.length, r.take (reachL r))) ⟨#[40]⟩ = true then 1 else 0) ≤ (r.take (reachL r)).count 40 := by
      split
      · rename_i h
        have e : r.take (reachL r) = [40] := sg_has h
        rw [e]; decide
      · omega
    split
    · simp only [List.map_nil]
      have : nOp [] = 0 := rfl
      omega
    · have := pcs_cnt f (r.drop (reachL r)) n
      omega
theorem wk_again (lev : Int) : ∀ (c : List Wt) (ns : List Rf.Nd) (c' : List Wt) (n' : List Rf.Nd), wkS lev c ns = .ok (c', n') → ∀ m, wkS lev c' m = .ok (c', m)
  | [], ns, c', n', h, m => by simp [wkS] at h; obtain ⟨rfl, rfl⟩ := h; rfl
  | x :: r, ns, c', n', h, m => by
    simp only [wkS] at h
    split at h
    · split at h
      · cases h
      · exact wk_again lev r _ c' n' h m
    · rename_i hl
      cases h
      simp [wkS, hl]
theorem read_no {K : ByteArray → Bool} {T : ByteArray → List Bool → Bool} {x : ByteArray} {ns : List Rf.Nd} (h : readS K T (toks x) = .ok ns) : isF x = true := by
  cases hF : isF x
  · unfold toks at h
    rw [hF] at h
    have e : readS K T [tk0 8] = .error (8, 0) := rfl
    rw [if_neg (by simp), e] at h
    cases h
  · rfl
theorem sgA : sgB (tkA 1) ⟨#[40]⟩ = true := by decide +kernel
theorem sgn_at (n : Nat) : sgB (tkB n) ⟨#[41]⟩ = true ∧ sgB (tkB n) ⟨#[44]⟩ = false ∧ sgB (tkB n) ⟨#[37]⟩ = false ∧ oprI (tkB n) = none := by
  have e : ∀ z, sgB (tkB n) z = sgB (tkB 0) z := fun z => rfl
  have e2 : oprI (tkB n) = oprI (tkB 0) := rfl
  rw [e, e, e, e2]
  refine ⟨by decide +kernel, by decide +kernel, by decide +kernel, by decide +kernel⟩
theorem read_brk {K : ByteArray → Bool} {T : ByteArray → List Bool → Bool} {x : ByteArray} {ns : List Rf.Nd} (h : readS K T (toks x) = .ok ns) :
    readS K T (toks (brkL x)) = .ok ns ∨ ∃ a : Int, 0 < a ∧ readS K T (toks (brkL x)) = .error (7, a) ∧ 32 ≤ x.data.toList.count 40 := by
  have hF := read_no h
  unfold readS at h
  cases hr : runS K T st0 (toks x) with
  | error e => rw [hr] at h; cases h
  | ok u =>
    rw [hr] at h; cases h
    obtain ⟨m, t, hm, hk, hall⟩ := good_last (good_toks x)
    have hrm := hr
    rw [hm, runS_snoc] at hrm
    obtain ⟨v, h1, h2⟩ := thenS_ok hrm
    obtain ⟨hp, _⟩ := run_pre m pre_st0 h1
    obtain ⟨k1, k2, k3, k4⟩ := step_last hp hk h2
    have h8 : ∀ y ∈ toks x, y.kind ≠ 8 := by
      intro y hy
      rw [hm] at hy
      rcases List.mem_append.1 hy with e | e
      · exact (hall y e).2
      · simp only [List.mem_cons, List.not_mem_nil, or_false] at e
        rw [e, k2]; decide
    obtain ⟨L, hL, hat, hx, hy⟩ := brk_toks hF h8
    have hLm : L = m := by
      have := hx.symm.trans hm
      exact (List.append_inj' this rfl).1
    rw [← hLm] at h1 hall
    have hf0 : far 1 0 = 0 := by decide
    have hl0 : mapS (far 1) (lift st0) = lift st0 := rfl
    have hA : stepS K T st0 (tkA 1) = .ok (lift st0) := by
      unfold stepS
      have e1 : st0.pl = 0 := rfl
      rw [e1, if_neg (by decide), if_neg (by decide), if_pos (by decide)]
      unfold thingS
      have e2 : leafN (tkA 1) = none := rfl
      rw [e2]
      dsimp only
      rw [if_neg (by decide +kernel), if_pos sgA]
      rfl
    have hrun : runS K T st0 (toks (brkL x)) = thenS (mapR (far 1) (runS K T (lift st0) L)) (fun u => runS K T u [tkB (x.size + 1), tkSet (tk0 0) (x.size + 2)]) := by
      rw [hy]
      show thenS (stepS K T st0 (tkA 1)) (fun u => runS K T u (L.map (mapT (far 1)) ++ _)) = _
      rw [hA]
      show runS K T (lift st0) (L.map (mapT (far 1)) ++ _) = _
      rw [runS_app]
      congr 1
      have := map_run (K := K) (T := T) (far 1) hf0 L (lift st0)
      rw [hl0] at this
      exact this
    unfold readS
    rw [hrun]
    rcases run_lift L (fun y hy => (hall y hy).1) h1 with g | ⟨y, hy1, g1, g2⟩
    · left
      rw [g]
      obtain ⟨c, n, hw, rfl⟩ := workS_ok k4
      have hvo : v.op = [] := k3
      obtain ⟨s1, s2, s3, s4⟩ := sgn_at (x.size + 1)
      have hW : workS (mapS (far 1) (lift v)) 0 = .ok (mapS (far 1) (lift ⟨v.pl, v.nm, n, v.op, c⟩)) := by
        rw [map_work, (work_lift k4).1]; rfl
      have hB : stepS K T (mapS (far 1) (lift v)) (tkB (x.size + 1)) = .ok ⟨4, mapT (far 1) v.nm, n, [], c.map (mapW (far 1)) ++ []⟩ := by
        unfold stepS
        have e1 : (mapS (far 1) (lift v)).pl = 4 := k1
        rw [e1, if_neg (fun hh => absurd hh.1 (by decide)), if_neg (fun hh => absurd hh.1 (by decide)), if_neg (by decide), if_neg (by decide), if_pos rfl]
        unfold workingS
        rw [if_neg (by rw [s3]; decide), s4]
        dsimp only
        rw [hW]
        show endingS T _ _ = _
        unfold endingS
        rw [if_neg (by rw [s2]; decide), if_pos s1]
        unfold closeS
        have e2 : (mapS (far 1) (lift ⟨v.pl, v.nm, n, v.op, c⟩)).op = [botL] := by
          show (v.op ++ [botL]).map (mapL (far 1)) = _
          rw [hvo]; rfl
        rw [e2]
        dsimp only
        rw [if_neg (by decide)]
        rfl
      have hE : stepS K T ⟨4, mapT (far 1) v.nm, n, [], c.map (mapW (far 1)) ++ []⟩ (tkSet (tk0 0) (x.size + 2)) = .ok ⟨4, mapT (far 1) v.nm, n, [], c.map (mapW (far 1)) ++ []⟩ := by
        unfold stepS
        have q : ∀ z, sgB (tkSet (tk0 0) (x.size + 2)) z = false := fun z => rfl
        have q2 : oprI (tkSet (tk0 0) (x.size + 2)) = none := rfl
        dsimp only
        rw [if_neg (fun hh => absurd hh.1 (by decide)), if_neg (fun hh => absurd hh.1 (by decide)), if_neg (by decide), if_neg (by decide), if_pos rfl]
        unfold workingS
        rw [if_neg (by rw [q]; decide), q2]
        dsimp only
        have hwk : wkS 0 (c.map (mapW (far 1)) ++ []) n = .ok (c.map (mapW (far 1)) ++ [], n) := by
          rw [List.append_nil, map_wk, wk_again 0 _ _ _ _ hw n]
        unfold workS
        dsimp only
        rw [hwk]
        show endingS T _ _ = _
        unfold endingS
        rw [if_neg (by rw [q]; decide), if_neg (by rw [q]; decide), if_pos ⟨rfl, rfl⟩]
      have hR : runS K T (mapS (far 1) (lift v)) [tkB (x.size + 1), tkSet (tk0 0) (x.size + 2)] = .ok ⟨4, mapT (far 1) v.nm, n, [], c.map (mapW (far 1)) ++ []⟩ := by
        show thenS (stepS K T (mapS (far 1) (lift v)) (tkB (x.size + 1))) (fun u => thenS (stepS K T u (tkSet (tk0 0) (x.size + 2))) (fun u => .ok u)) = _
        rw [hB]
        show thenS (stepS K T _ (tkSet (tk0 0) (x.size + 2))) _ = _
        rw [hE]; rfl
      have hZ : thenS (mapR (far 1) (Except.ok (lift v))) (fun u => runS K T u [tkB (x.size + 1), tkSet (tk0 0) (x.size + 2)]) = runS K T (mapS (far 1) (lift v)) [tkB (x.size + 1), tkSet (tk0 0) (x.size + 2)] := rfl
      rw [hZ, hR]
    · right
      refine ⟨far 1 y.at', ?_, ?_, ?_⟩
      · have := hat y hy1
        unfold far
        rw [if_pos this]; omega
      · rw [g1]; rfl
      · have h0 : st0.op.length = 0 := rfl
        rw [h0] at g2
        have hs : nOp L ≤ nOp ((pcsOf x).map tkAt) := by
          rw [hL]
          unfold nOp
          exact List.Sublist.countP_le (((List.dropLast_sublist _)).map tkAt)
        have hc := pcs_cnt x.size (x.data.toList.drop 1) x.size
        have hd : (x.data.toList.drop 1).count 40 ≤ x.data.toList.count 40 := (List.drop_sublist 1 _).count_le 40
        have hs' : nOp ((pcsOf x).map tkAt) = nOp ((pcs x.size (x.data.toList.drop 1) x.size).map tkAt) := rfl
        omega
end Go.Proofs.YtcmjhjnpcogmgaaGreatDoor
