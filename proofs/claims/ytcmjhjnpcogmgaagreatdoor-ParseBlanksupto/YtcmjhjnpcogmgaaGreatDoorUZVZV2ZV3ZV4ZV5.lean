/- What is read is a formula that may be; what is wrong is told with a place in the text -/
import Derived.Test.YtcmjhjnpcogmgaaGreatDoorUAuto
import Derived.Test.YtcmjhjnpcogmgaaGreatDoorUZIZM
import Derived.Test.YtcmjhjnpcogmgaaGreatDoorULALKLG
set_option linter.all false
set_option maxRecDepth 100000
set_option maxHeartbeats 4000000
namespace Go.Proofs.YtcmjhjnpcogmgaaGreatDoor
open Go.Shelf Go.RowKit
structure Ats (P : Int → Prop) (s : St) : Prop where
 nm : P s.nm.at'
 cur : ∀ x ∈ s.cur, P x.at'
 op : ∀ l ∈ s.op, P l.nm.at' ∧ ∀ x ∈ l.out, P x.at'
def ErrOk (P : Int → Prop) (e : Int × Int) : Prop := (e.1 = 7 ∨ e.1 = 8) ∧ P e.2
def Told (P : Int → Prop) (r : Rs) : Prop := match r with
 | .ok u => Ats P u
 | .error e => ErrOk P e
theorem Told.then {P : Int → Prop} {r : Rs} {f : St → Rs} (h : Told P r) (hf : ∀ u, Ats P u → Told P (f u)) : Told P (thenS r f) := by
 cases r with
 | ok u => exact hf u h
 | error e => exact h
theorem Ats.to {P : Int → Prop} {s : St} (h : Ats P s) (p : Int) : Ats P (s.to p) := ⟨h.nm, h.cur, h.op⟩
theorem add_told {P : Int → Prop} {s : St} (h : Ats P s) (n : Rf.Nd) {a : Int} (ha : P a) : Told P (addS s n a) := by
 unfold addS
 split
 ·exact ⟨.inr rfl, ha⟩
 ·exact ⟨h.nm, h.cur, h.op⟩
theorem open_told {P : Int → Prop} {s : St} (h : Ats P s) {nm : Tk} (hn : P nm.at') {a : Int} (ha : P a) : Told P (openS s a nm) := by
 unfold openS
 split
 ·exact ⟨.inl rfl, ha⟩
 ·refine ⟨h.nm, fun x hx => (by cases hx), fun l hl => ?_⟩
  rcases List.mem_cons.1 hl with rfl | hl
  ·exact ⟨hn, h.cur⟩
  ·exact h.op l hl
theorem next_told {P : Int → Prop} {s : St} (h : Ats P s) {a : Int} (ha : P a) : Told P (nextS s a) := by
 unfold nextS
 split
 ·exact ⟨.inr rfl, ha⟩
 ·rename_i l r ho
  split
  ·refine ⟨h.nm, h.cur, fun l' hl => ?_⟩
   have hl' : l' = ⟨l.nm, l.rl ++ [s.pl == 5], l.out⟩ ∨ l' ∈ r := by simpa using hl
   rcases hl' with rfl | hl'
   ·exact h.op l (by rw [ho]; simp)
   ·exact h.op l' (by rw [ho]; simp [hl'])
  ·exact ⟨.inr rfl, ha⟩
theorem close_told {T : ByteArray → List Bool → Bool} {P : Int → Prop} {s : St} (h : Ats P s) {a : Int} (ha : P a) : Told P (closeS T s a) := by
 unfold closeS
 split
 ·exact ⟨.inr rfl, ha⟩
 ·rename_i l r ho
  have hl := h.op l (by rw [ho]; simp)
  have hA : Ats P ⟨s.pl, s.nm, s.ns, r, s.cur ++ l.out⟩ := ⟨h.nm, fun x hx => by
   have hx' : x ∈ s.cur ∨ x ∈ l.out := by simpa using hx
   rcases hx' with hx' | hx'
   ·exact h.cur x hx'
   ·exact hl.2 x hx', fun l' hl' => h.op l' (by rw [ho]; simp [show l' ∈ r from hl'])⟩
  split
  ·refine Told.then ?_ fun u hu => hu.to 4
   generalize (if s.pl = 2 then l.rl else l.rl ++ [s.pl == 5]) = rl
   unfold callS
   split
   ·exact add_told hA _ hl.1
   ·exact ⟨.inr rfl, hl.1⟩
  ·exact ⟨hA.nm, hA.cur, hA.op⟩
def WkTold (P : Int → Prop) (r : Except Int (List Wt × List Rf.Nd)) : Prop := match r with
 | .ok cn => ∀ x ∈ cn.1, P x.at'
 | .error a => P a
theorem wk_told {P : Int → Prop} (lev : Int) : ∀ (c : List Wt) (ns : List Rf.Nd), (∀ x ∈ c, P x.at') → WkTold P (wkS lev c ns)
 | [], ns, h => h
 | x :: r, ns, h => by
  unfold wkS
  split
  ·split
   ·exact h x (by simp)
   ·exact wk_told lev r _ (fun y hy => h y (by simp [hy]))
  ·exact h
theorem work_told {P : Int → Prop} {s : St} (h : Ats P s) (lev : Int) : Told P (workS s lev) := by
 unfold workS
 have := wk_told lev s.cur s.ns h.cur
 cases hw : wkS lev s.cur s.ns with
 | error a => rw [hw] at this; exact ⟨.inr rfl, this⟩
 | ok cn => rw [hw] at this; exact ⟨h.nm, this, h.op⟩
theorem ending_told {T : ByteArray → List Bool → Bool} {P : Int → Prop} {s : St} (h : Ats P s) {t : Tk} (ha : P t.at') : Told P (endingS T s t) := by
 unfold endingS
 split
 ·exact next_told h ha
 ·split
  ·exact close_told h ha
  ·split
   ·exact h
   ·exact ⟨.inr rfl, ha⟩
theorem step_told {K : ByteArray → Bool} {T : ByteArray → List Bool → Bool} {P : Int → Prop} (h0 : P 0) {s : St} (h : Ats P s) {t : Tk} (ha : P t.at') : Told P (stepS K T s t) := by
 unfold stepS
 split
 ·exact close_told h ha
 split
 ·exact Told.then (add_told h _ ha) fun u hu => hu.to 5
 split
 ·unfold thingS
  split
  ·exact Told.then (add_told h _ ha) fun u hu => hu.to 4
  ·split
   ·unfold namS
    split
    ·exact ⟨ha, h.cur, h.op⟩
    ·exact ⟨.inr rfl, ha⟩
   ·split
    ·exact Told.then (open_told h h0 ha) fun u hu => hu.to 0
    ·split
     ·refine ⟨h.nm, fun x hx => ?_, h.op⟩
      have hx' : x = ⟨1, t.at'⟩ ∨ x ∈ s.cur := by simpa [pushS, St.to] using hx
      rcases hx' with rfl | hx'
      ·exact ha
      ·exact h.cur x hx'
     ·exact ⟨.inr rfl, ha⟩
 split
 ·unfold openingS
  split
  ·exact Told.then (open_told h h.nm ha) fun u hu => hu.to 2
  ·exact ⟨.inr rfl, ha⟩
 split
 ·unfold workingS
  split
  ·exact add_told h _ ha
  ·split
   ·exact Told.then (work_told h 0) fun u hu => ending_told hu ha
   ·rename_i i hi
    refine Told.then (work_told h _) fun u hu => ⟨hu.nm, fun x hx => ?_, hu.op⟩
    have hx' : x = ⟨3 + (i : Int), t.at'⟩ ∨ x ∈ u.cur := by simpa [pushS, St.to] using hx
    rcases hx' with rfl | hx'
    ·exact ha
    ·exact hu.cur x hx'
 ·exact ending_told h ha
theorem run_told {K : ByteArray → Bool} {T : ByteArray → List Bool → Bool} {P : Int → Prop} (h0 : P 0) : ∀ (l : List Tk) {s : St}, Ats P s → (∀ t ∈ l, P t.at') → Told P (runS K T s l)
 | [], s, h, _ => h
 | t :: l, s, h, hl => Told.then (step_told h0 h (hl t (by simp))) fun u hu => run_told h0 l hu (fun t ht => hl t (by simp [ht]))
theorem good_all : ∀ {l : List Tk} {n : Nat} {lo : Int}, Good n lo l → 0 ≤ lo → ∀ t ∈ l, 0 ≤ t.at' ∧ t.at' ≤ n
 | [], n, lo, h, _, t, ht => by cases ht
 | u :: r, n, lo, h, hlo, t, ht => by
  obtain ⟨h1, h2, h3⟩ := h
  rcases List.mem_cons.1 ht with rfl | ht
  ·omega
  ·rcases h3 with ⟨rfl, _⟩ | ⟨_, _, _, h4⟩
   ·cases ht
   ·exact good_all h4 zq17 t ht
theorem read_wrong {K : ByteArray → Bool} {T : ByteArray → List Bool → Bool} {x : ByteArray} {c a : Int} (h : readS K T (toks x) = .error (c, a)) : (c = 7 ∨ c = 8) ∧ 0 ≤ a ∧ a ≤ x.size := by
 have hr : Told (fun a => 0 ≤ a ∧ a ≤ (x.size : Int)) (runS K T st0 (toks x)) := run_told zq17 _ ⟨⟨Int.le_refl 0, (by show (0 : Int) ≤ _; omega)⟩, fun y hy => (by cases hy), fun l hl => (by cases hl)⟩ (good_all (good_toks x) (Int.le_refl 0))
 unfold readS at h
 cases hs : runS K T st0 (toks x) with
 | ok u => rw [hs] at h; cases h
 | error e => rw [hs] at h hr; cases h; exact hr
end Go.Proofs.YtcmjhjnpcogmgaaGreatDoor
namespace Go.Proofs.YtcmjhjnpcogmgaaGreatDoor
open Go.Shelf Go.RowKit
def bin (x : Wt) : Prop := 3 ≤ x.op ∧ x.op ≤ 13
def okL (d : Nat) (x : Wt) (t : Rf.Th) : Prop := t.many = false ∧ Rf.bump x.op true 0 t + d ≤ 32
def Fr (d : Nat) : List Wt → List Rf.Th → List Rf.Th → Prop
 | [], T, B => T = B
 | x :: r, T, B => (x.op = 1 ∧ Fr d r T B) ∨ (bin x ∧ ∃ t T', T = t :: T' ∧ okL d x t ∧ Fr d r T' B)
def Ch : List Wt → Prop
 | [] => True
 | [_] => True
 | x :: y :: r => (y.op = 1 → x.op = 1) ∧ (bin y → Rf.levI y.op < Rf.levI x.op) ∧ Ch (y :: r)
theorem Ch.tail {x : Wt} {r : List Wt} (h : Ch (x :: r)) : Ch r := by
 cases r with
 | nil => trivial
 | cons y r => exact h.2.2
def LS : List Lv → List Rf.Th → Prop
 | [], B => B = []
 | l :: r, B => (l.nm.kind = 3 → Rf.nameOk l.nm.str = true) ∧ (l.nm.kind ≠ 3 → l.rl = []) ∧ ∃ A B' B'', B = A ++ B' ∧ A.length = l.rl.length ∧ (∀ t ∈ A, t.dep + (r.length + 1) ≤ 32) ∧ Fr r.length l.out B' B'' ∧ Ch l.out ∧ LS r B''
def Cur (d : Nat) (t : Rf.Th) : Prop := t.many = false ∧ t.dep + d ≤ 32 ∧ (t.lev < 6 → t.dep + 1 + d ≤ 32)
structure Vd (s : St) : Prop where
 nm : s.pl = 3 → Rf.nameOk s.nm.str = true
 op : s.op.length ≤ 32
 rl : ∀ l ∈ s.op, l.rl.length ≤ 15
 zero : s.pl = 1 ∨ s.pl = 2 ∨ s.pl = 5 → s.cur = []
 lev : ∃ stk, Rf.putFrom [] s.ns = some stk ∧
  (s.pl ≤ 3 → ∃ B, Fr s.op.length s.cur stk.reverse B ∧ Ch s.cur ∧ LS s.op B) ∧
  (s.pl = 4 → ∃ t S B, stk.reverse = t :: S ∧ Cur s.op.length t ∧ Fr s.op.length s.cur S B ∧ Ch s.cur ∧ LS s.op B) ∧
  (s.pl = 5 → ∃ t S, stk.reverse = t :: S ∧ t.dep = 0 ∧ LS s.op S)
def TokV (t : Tk) : Prop := (∀ n, leafN t = some n → Rf.mayN n = true) ∧ (t.kind = 5 → Rf.mayN (rectNd t) = true)
theorem put_snoc : ∀ (ns : List Rf.Nd) (st : List Rf.Th) (n : Rf.Nd), Rf.putFrom st (ns ++ [n]) = (Rf.putFrom st ns).bind (fun s => Rf.stepN s n)
 | [], st, n => by
  show (Rf.stepN st n).bind (fun s => some s) = Rf.stepN st n
  cases Rf.stepN st n <;> rfl
 | m :: r, st, n => by
  show (Rf.stepN st m).bind (fun s => Rf.putFrom s (r ++ [n])) = ((Rf.stepN st m).bind (fun s => Rf.putFrom s r)).bind (fun s => Rf.stepN s n)
  cases h : Rf.stepN st m with
  | none => rfl
  | some s => exact put_snoc r s n
theorem put_more {ns : List Rf.Nd} {stk s2 : List Rf.Th} {n : Rf.Nd} (h : Rf.putFrom [] ns = some stk) (hs : Rf.stepN stk n = some s2) : Rf.putFrom [] (ns ++ [n]) = some s2 := by rw [put_snoc, h]; exact hs
theorem step_leaf {stk : List Rf.Th} {n : Rf.Nd} (hm : Rf.mayN n = true) (h4 : n.kind ≠ 4) (h5 : n.kind ≠ 5) (ho : n.op = 0) : Rf.stepN stk n = some (stk ++ [⟨n.kind == 3, 7, 0⟩]) := by
 have ht := (Rf.may_args hm).2.2.1 h4 h5
 have hw : Rf.workN n [] = some ⟨n.kind == 3, 7, 0⟩ := by
  unfold Rf.workN
  have e5 : (n.kind == 5) = false := by simpa using h5
  rw [e5, ho, if_neg (by simp), if_neg h5]
  rfl
 have e0 : Rf.takN n = 0 := by unfold Rf.takN; rw [ht]; rfl
 have := Rf.step_some (st := stk) (t := ⟨n.kind == 3, 7, 0⟩) hm (by rw [ht]; omega) (by rw [e0]; simpa using hw)
 rw [this, e0]; simp
theorem may_op {op : Int} (h1 : 1 ≤ op) (h2 : op ≤ 13) : Rf.mayN (opNd op) = true := by
 unfold Rf.mayN opNd
 simp [Rf.sameN, Rf.opOk, h1, h2]
theorem step_un {X : List Rf.Th} {t : Rf.Th} {op : Int} (h : op = 1 ∨ op = 2) (hm : t.many = false) : Rf.stepN (X ++ [t]) (opNd op) = some (X ++ [⟨false, Rf.levI op, Rf.bump op true 0 t⟩]) := by
 have ht : Rf.takI (opNd op) = 1 := by
  unfold Rf.takI opNd Rf.cntN
  rcases h with rfl | rfl <;> rfl
 have e0 : Rf.takN (opNd op) = 1 := by unfold Rf.takN; rw [ht]; rfl
 have hd : (X ++ [t]).drop ((X ++ [t]).length - 1) = [t] := by simp
 have hw : Rf.workN (opNd op) [t] = some ⟨false, Rf.levI op, Rf.bump op true 0 t⟩ := by
  unfold Rf.workN opNd
  simp [hm, Rf.maxD]
 have := Rf.step_some (st := X ++ [t]) (n := opNd op) (t := ⟨false, Rf.levI op, Rf.bump op true 0 t⟩) (may_op zq17 zq17) (by rw [ht]; simp; omega) (by rw [e0, hd]; exact hw)
 rw [this, e0]; simp
theorem step_bin {X : List Rf.Th} {a t : Rf.Th} {op : Int} (h1 : 3 ≤ op) (h2 : op ≤ 13) (ha : a.many = false) (hm : t.many = false) : Rf.stepN (X ++ [a, t]) (opNd op) = some (X ++ [⟨false, Rf.levI op, max (Rf.bump op true 0 a) (Rf.bump op true 1 t)⟩]) := by
 have ht : Rf.takI (opNd op) = 2 := by
  unfold Rf.takI opNd Rf.cntN
  rw [if_pos rfl, if_neg (by show ¬ (op = 1 ∨ op = 2); omega)]; rfl
 have e0 : Rf.takN (opNd op) = 2 := by unfold Rf.takN; rw [ht]; rfl
 have hd : (X ++ [a, t]).drop ((X ++ [a, t]).length - 2) = [a, t] := by simp
 have hw : Rf.workN (opNd op) [a, t] = some ⟨false, Rf.levI op, max (Rf.bump op true 0 a) (Rf.bump op true 1 t)⟩ := by
  unfold Rf.workN opNd
  simp [ha, hm, Rf.maxD]
 have := Rf.step_some (st := X ++ [a, t]) (n := opNd op) (t := ⟨false, Rf.levI op, max (Rf.bump op true 0 a) (Rf.bump op true 1 t)⟩) (may_op zq17 zq17) (by rw [ht]; simp; omega) (by rw [e0, hd]; exact hw)
 rw [this, e0]; simp
theorem maxD_f {op : Int} : ∀ (l : List Rf.Th) (i d k : Nat), (∀ t ∈ l, t.dep ≤ k) → d ≤ k → Rf.maxD op false i l d ≤ k
 | [], i, d, k, _, h => h
 | t :: r, i, d, k, hl, h => by
  refine maxD_f r (i + 1) _ k (fun u hu => hl u (by simp [hu])) ?_
  have := hl t (by simp)
  rw [Rf.bump_n]; omega
theorem step_call {X A : List Rf.Th} {nm : ByteArray} (hn : Rf.nameOk nm = true) (hA : A.length ≤ 16) : Rf.stepN (X ++ A) (callNd nm A.length) = some (X ++ [⟨false, 7, Rf.maxD 0 false 0 A 0 + 1⟩]) := by
 have hm : Rf.mayN (callNd nm A.length) = true := by
  unfold Rf.mayN callNd
  simp [Rf.sameN, hn]
  omega
 have ht : Rf.takI (callNd nm A.length) = (A.length : Int) := rfl
 have e0 : Rf.takN (callNd nm A.length) = A.length := by unfold Rf.takN; rw [ht]; simp
 have hd : (X ++ A).drop ((X ++ A).length - A.length) = A := by simp
 have hw : Rf.workN (callNd nm A.length) A = some ⟨false, 7, Rf.maxD 0 false 0 A 0 + 1⟩ := rfl
 have := Rf.step_some (st := X ++ A) (t := ⟨false, 7, Rf.maxD 0 false 0 A 0 + 1⟩) hm (by rw [ht]; simp; omega) (by rw [e0, hd]; exact hw)
 rw [this, e0]; simp
theorem lev_bin {op : Int} (h1 : 3 ≤ op) (h2 : op ≤ 13) : 1 ≤ Rf.levI op ∧ Rf.levI op ≤ 4 := by unfold Rf.levI; (repeat' split) <;> omega
theorem bump_no {op : Int} {i : Nat} {t : Rf.Th} (h : Rf.inBr op i t.lev = false) : Rf.bump op true i t = t.dep := by unfold Rf.bump; simp [h]
theorem bump_le {op : Int} {i : Nat} {t : Rf.Th} : Rf.bump op true i t ≤ t.dep + 1 := by unfold Rf.bump; split <;> omega
def Hd (d : Nat) (c : List Wt) (t : Rf.Th) : Prop := match c with
 | [] => True
 | x :: _ => (x.op = 1 → Rf.bump 1 true 0 t + d ≤ 32) ∧ (bin x → Rf.bump x.op true 1 t + d ≤ 32)
theorem Cur.hd {d : Nat} {t : Rf.Th} (h : Cur d t) (c : List Wt) : Hd d c t := by
 obtain ⟨_, h2, h3⟩ := h
 cases c with
 | nil => trivial
 | cons x r =>
  refine ⟨fun _ => ?_, fun hb => ?_⟩
  ·by_cases hl : t.lev < 6
   ·have := h3 hl; have := bump_le (op := 1) (i := 0) (t := t); omega
   ·rw [bump_no]; exact h2
    unfold Rf.inBr
    have e : Rf.levI 1 = 5 := rfl
    rw [e]; simp; omega
  ·by_cases hl : t.lev < 6
   ·have := h3 hl; have := bump_le (op := x.op) (i := 1) (t := t); omega
   ·rw [bump_no]; exact h2
    have := lev_bin hb.1 hb.2
    unfold Rf.inBr
    simp; omega
theorem rev_top {stk S : List Rf.Th} {t : Rf.Th} (h : stk.reverse = t :: S) : stk = S.reverse ++ [t] := by
 have := congrArg List.reverse h
 simpa using this
theorem wk_vd (lev : Int) (d : Nat) {B : List Rf.Th} : ∀ (c : List Wt) (ns : List Rf.Nd) (stk : List Rf.Th) (t : Rf.Th) (S : List Rf.Th) (c' : List Wt) (n' : List Rf.Nd), Rf.putFrom [] ns = some stk → stk.reverse = t :: S → t.many = false → t.dep + d ≤ 32 → Hd d c t → Fr d c S B → Ch c → wkS lev c ns = .ok (c', n') →
  ∃ stk' t' S', Rf.putFrom [] n' = some stk' ∧ stk'.reverse = t' :: S' ∧ t'.many = false ∧ t'.dep + d ≤ 32 ∧ Fr d c' S' B ∧ Ch c' ∧ (t' = t ∨ lev ≤ t'.lev) ∧ (∀ x r, c' = x :: r → ¬ lev ≤ Rf.levI x.op)
 | [], ns, stk, t, S, c', n', hp, hr, hm, hd, hh, hf, hc, hw => by
  simp [wkS] at hw
  obtain ⟨rfl, rfl⟩ := hw
  exact ⟨stk, t, S, hp, hr, hm, hd, hf, hc, .inl rfl, fun x r e => by cases e⟩
 | x :: r, ns, stk, t, S, c', n', hp, hr, hm, hd, hh, hf, hc, hw => by
  simp only [wkS] at hw
  split at hw
  ·rename_i hl
   split at hw
   ·cases hw
   ·have hst := rev_top hr
    rcases hf with ⟨hx, hf⟩ | ⟨hx, a, S', rfl, hok, hf⟩
    ·have hs : Rf.stepN stk (opNd x.op) = some (S.reverse ++ [⟨false, 5, Rf.bump 1 true 0 t⟩]) := by
      rw [hst, hx]; exact step_un (.inl rfl) hm
     have hh1 : Hd d r ⟨false, 5, Rf.bump 1 true 0 t⟩ := by
      cases r with
      | nil => trivial
      | cons y r =>
       refine ⟨fun _ => ?_, fun hb => ?_⟩
       ·rw [bump_no (by rfl)]; exact hh.1 hx
       ·rw [bump_no]; exact hh.1 hx
        have := lev_bin hb.1 hb.2
        unfold Rf.inBr
        simp; omega
     obtain ⟨stk', t', S', k1, k2, k3, k4, k5, k6, k7, k8⟩ := wk_vd lev d r _ _ _ S c' n' (put_more hp hs) (by simp) rfl (hh.1 hx) hh1 hf hc.tail hw
     refine ⟨stk', t', S', k1, k2, k3, k4, k5, k6, .inr ?_, k8⟩
     rcases k7 with rfl | k7
     ·have e : Rf.levI x.op = 5 := by rw [hx]; rfl
      show lev ≤ 5; omega
     ·exact k7
    ·have hs : Rf.stepN stk (opNd x.op) = some (S'.reverse ++ [⟨false, Rf.levI x.op, max (Rf.bump x.op true 0 a) (Rf.bump x.op true 1 t)⟩]) := by
      rw [hst, List.reverse_cons, List.append_assoc]; exact step_bin hx.1 hx.2 hok.1 hm
     have hdp : max (Rf.bump x.op true 0 a) (Rf.bump x.op true 1 t) + d ≤ 32 := by have := hok.2; have := hh.2 hx; omega
     have hh1 : Hd d r ⟨false, Rf.levI x.op, max (Rf.bump x.op true 0 a) (Rf.bump x.op true 1 t)⟩ := by
      cases r with
      | nil => trivial
      | cons y r =>
       refine ⟨fun hy => ?_, fun hb => ?_⟩
       ·have := hc.1 hy; have := hx.1; omega
       ·rw [bump_no]; exact hdp
        have := hc.2.1 hb
        unfold Rf.inBr
        simp; omega
     obtain ⟨stk', t', S2, k1, k2, k3, k4, k5, k6, k7, k8⟩ := wk_vd lev d r _ _ _ S' c' n' (put_more hp hs) (by simp) rfl hdp hh1 hf hc.tail hw
     refine ⟨stk', t', S2, k1, k2, k3, k4, k5, k6, .inr ?_, k8⟩
     rcases k7 with rfl | k7
     ·exact hl
     ·exact k7
  ·cases hw
   exact ⟨stk, t, S, hp, hr, hm, hd, hf, hc, .inl rfl, fun y r' e => by cases e; assumption⟩
theorem close_vd {T : ByteArray → List Bool → Bool} {s u : St} {a : Int} (h : closeS T s a = .ok u) {stk A B : List Rf.Th} (hp : Rf.putFrom [] s.ns = some stk) (hst : stk.reverse = A ++ B) (hcur : s.cur = []) (hop : s.op.length ≤ 32) (hrl : ∀ l ∈ s.op, l.rl.length ≤ 15) (hls : LS s.op B)
  (hA : ∀ t ∈ A, t.dep + s.op.length ≤ 32) (hlen : A.length = if s.pl = 2 then 0 else 1) (hpar : ∀ l r, s.op = l :: r → l.nm.kind ≠ 3 → ∃ t, A = [t] ∧ t.many = false) : Vd u := by
 obtain ⟨l, r, ho, hh⟩ := closeS_ok h
 rw [ho] at hls hA
 obtain ⟨hn, hn0, A0, B', B'', rfl, hA0, hA1, hF, hC, hL⟩ := hls
 have hrl' := hrl l (by rw [ho]; simp)
 have hop' : r.length + 1 ≤ 32 := by rw [ho] at hop; simpa using hop
 rcases hh with ⟨hk, rl, hrle, _, _, rfl⟩ | ⟨hk, rfl⟩
 ·have hrll : rl.length = (A ++ A0).length := by
   rw [hrle, List.length_append, hlen, hA0]
   split <;> simp <;> omega
  have hl16 : (A ++ A0).length ≤ 16 := by
   rw [List.length_append, hlen, hA0]; split <;> omega
  have hall : ∀ t ∈ A ++ A0, t.dep + (r.length + 1) ≤ 32 := fun t ht => by
   rcases List.mem_append.1 ht with ht | ht
   ·exact hA t ht
   ·exact hA1 t ht
  have hs2 : stk = B'.reverse ++ (A ++ A0).reverse := by
   have := congrArg List.reverse hst
   simpa using this
  have hst2 : Rf.stepN stk (callNd l.nm.str rl.length) = some (B'.reverse ++ [⟨false, 7, Rf.maxD 0 false 0 (A ++ A0).reverse 0 + 1⟩]) := by
   have e : rl.length = (A ++ A0).reverse.length := by rw [List.length_reverse, hrll]
   rw [hs2, e]
   exact step_call (hn hk) (by rw [List.length_reverse]; exact hl16)
  have hdep : Rf.maxD 0 false 0 (A ++ A0).reverse 0 ≤ 32 - (r.length + 1) := maxD_f _ _ _ _ (fun t ht => by have := hall t (List.mem_reverse.1 ht); omega) zq17
  refine ⟨fun e => by simp at e, by show r.length ≤ 32; omega, fun l' hl' => hrl l' (by rw [ho]; simp [show l' ∈ r from hl']), fun e => by simp at e, _, put_more hp hst2, fun e => by simp at e, fun _ => ⟨⟨false, 7, Rf.maxD 0 false 0 (A ++ A0).reverse 0 + 1⟩, B', B'', by simp, ⟨rfl, ?_, fun e => ?_⟩, by rw [hcur]; exact hF, by rw [hcur]; exact hC, hL⟩, fun e => by simp at e⟩
  ·show Rf.maxD 0 false 0 (A ++ A0).reverse 0 + 1 + r.length ≤ 32; omega
  ·have : (7 : Int) < 6 := e; omega
 ·obtain ⟨t, rfl, hm⟩ := hpar l r ho hk
  have hA0' : A0 = [] := List.eq_nil_of_length_eq_zero (by rw [hA0, hn0 hk]; rfl)
  subst hA0'
  have hd := hA t (by simp)
  refine ⟨fun e => by simp at e, by show r.length ≤ 32; omega, fun l' hl' => hrl l' (by rw [ho]; simp [show l' ∈ r from hl']), fun e => by simp at e, stk, hp, fun e => by simp at e, fun _ => ⟨t, B', B'', by simpa using hst, ⟨hm, ?_, fun _ => ?_⟩, by rw [hcur]; exact hF, by rw [hcur]; exact hC, hL⟩, fun e => by simp at e⟩
  ·have : t.dep + (r.length + 1) ≤ 32 := hd
   show t.dep + r.length ≤ 32; omega
  ·have : t.dep + (r.length + 1) ≤ 32 := hd
   show t.dep + 1 + r.length ≤ 32; omega
theorem next_vd {s u : St} {a : Int} (h : nextS s a = .ok u) {stk B : List Rf.Th} {t : Rf.Th} (hp : Rf.putFrom [] s.ns = some stk) (hst : stk.reverse = t :: B) (hcur : s.cur = []) (hop : s.op.length ≤ 32) (hrl : ∀ l ∈ s.op, l.rl.length ≤ 15) (hls : LS s.op B) (hA : t.dep + s.op.length ≤ 32) : Vd u := by
 obtain ⟨l, r, ho, hk, h15, rfl⟩ := nextS_ok h
 rw [ho] at hls hA
 obtain ⟨hn, hn0, A0, B', B'', rfl, hA0, hA1, hF, hC, hL⟩ := hls
 have hrl' := hrl l (by rw [ho]; simp)
 have hop' : r.length + 1 ≤ 32 := by rw [ho] at hop; simpa using hop
 refine ⟨fun e => by simp at e, by show r.length + 1 ≤ 32; omega, fun l' hl' => ?_, fun _ => hcur, stk, hp, fun _ => ⟨t :: (A0 ++ B'), by rw [hcur]; exact hst, by rw [hcur]; trivial, hn, fun e => absurd hk e, t :: A0, B', B'', rfl, ?_, ?_, hF, hC, hL⟩, fun e => by simp at e, fun e => by simp at e⟩
 ·have hl2 : l' = ⟨l.nm, l.rl ++ [s.pl == 5], l.out⟩ ∨ l' ∈ r := by simpa using hl'
  rcases hl2 with rfl | hl2
  ·simp; omega
  ·exact hrl l' (by rw [ho]; simp [hl2])
 ·simp [hA0]
 ·intro x hx
  rcases List.mem_cons.1 hx with rfl | hx
  ·exact hA
  ·exact hA1 x hx
end Go.Proofs.YtcmjhjnpcogmgaaGreatDoor
namespace Go.Proofs.YtcmjhjnpcogmgaaGreatDoor
open Go.Shelf Go.RowKit
theorem leaf_op {t : Tk} {n : Rf.Nd} (h : leafN t = some n) : n.op = 0 ∧ n.kind ≠ 3 ∧ n.kind ≠ 4 ∧ n.kind ≠ 5 := by
 unfold leafN at h
 split at h
 ·cases h; simp
 split at h
 ·cases h; simp
 split at h
 ·cases h; simp
 split at h
 ·cases h; simp
 split at h
 ·cases hb : truB t.str with
  | none => rw [hb] at h; cases h
  | some b => rw [hb] at h; cases h; simp
 ·cases h
theorem mayNm_ok {s : ByteArray} (h : mayNm s = true) : Rf.nameOk s = true := by
 cases hm : Rf.mayN (cnd s) with
 | false =>
  exfalso
  unfold mayNm Rf.chkI Rf.measN Rf.putFrom at h
  rw [Rf.step_may hm] at h
  simp at h
 | true =>
  unfold Rf.mayN cnd at hm
  simp [Rf.sameN] at hm
  exact hm
theorem Fr.cons_neg {d : Nat} {c : List Wt} {T B : List Rf.Th} (h : Fr d c T B) (hc : Ch c) (a : Int) : Fr d (⟨1, a⟩ :: c) T B ∧ Ch (⟨1, a⟩ :: c) := by
 refine ⟨.inl ⟨rfl, h⟩, ?_⟩
 cases c with
 | nil => trivial
 | cons y r => exact ⟨fun _ => rfl, fun hb => by have := lev_bin hb.1 hb.2; show Rf.levI y.op < 5; omega, hc⟩
theorem opened_vd {s : St} {stk B : List Rf.Th} (hp : Rf.putFrom [] s.ns = some stk) (hF : Fr s.op.length s.cur stk.reverse B) (hC : Ch s.cur) (hL : LS s.op B) (hrl : ∀ l ∈ s.op, l.rl.length ≤ 15) (hop : s.op.length ≤ 32) (h32 : s.op.length ≠ 32) (nm : Tk) (hn : nm.kind = 3 → Rf.nameOk nm.str = true) (p : Int) (h3 : p = 0 ∨ p = 2) : Vd ⟨p, s.nm, s.ns, ⟨nm, [], s.cur⟩ :: s.op, []⟩ := by
 refine ⟨fun e => by simp at e; omega, by simp; omega, fun l hl => ?_, fun _ => rfl, stk, hp, fun _ => ⟨stk.reverse, rfl, trivial, hn, fun _ => rfl, [], stk.reverse, B, rfl, rfl, fun t ht => (by cases ht), hF, hC, hL⟩, fun e => by simp at e; omega, fun e => by simp at e; omega⟩
 have hl' : l = ⟨nm, [], s.cur⟩ ∨ l ∈ s.op := by simpa using hl
 rcases hl' with rfl | hl'
 ·simp
 ·exact hrl l hl'
theorem thing_vd {K : ByteArray → Bool} {s u : St} {t : Tk} (hv : Vd s) (hp3 : s.pl ≤ 3) (hpl : 0 ≤ s.pl) (ht : TokV t) (h : thingS K s t = .ok u) : Vd u := by
 obtain ⟨hnm, hop, hrl, hz, stk, hp, h0, h4, h5⟩ := hv
 obtain ⟨B, hF, hC, hL⟩ := h0 hp3
 unfold thingS at h
 split at h
 ·rename_i n hn
  obtain ⟨v, h1, h2⟩ := thenS_ok h
  obtain ⟨_, rfl⟩ := addS_ok h1
  cases h2
  obtain ⟨o1, o2, o3, o4⟩ := leaf_op hn
  have hs := step_leaf (stk := stk) (ht.1 n hn) o3 o4 o1
  have e3 : (n.kind == 3) = false := by simpa using o2
  rw [e3] at hs
  exact ⟨fun e => by simp [St.to] at e, hop, hrl, fun e => by simp [St.to] at e, _, put_more hp hs, fun e => by simp [St.to] at e, fun _ => ⟨⟨false, 7, 0⟩, stk.reverse, B, by simp, ⟨rfl, by show 0 + s.op.length ≤ 32; omega, fun e => by have : (7 : Int) < 6 := e; omega⟩, hF, hC, hL⟩, fun e => by simp [St.to] at e⟩
 ·split at h
  ·obtain ⟨hm, _, rfl⟩ := namS_ok h
   exact ⟨fun _ => mayNm_ok hm, hop, hrl, fun e => by simp at e, stk, hp, fun _ => ⟨B, hF, hC, hL⟩, fun e => by simp at e, fun e => by simp at e⟩
  ·split at h
   ·obtain ⟨v, h1, h2⟩ := thenS_ok h
    obtain ⟨h32, rfl⟩ := openS_ok h1
    cases h2
    exact opened_vd hp hF hC hL hrl hop h32 (tk0 0) (fun e => by simp [tk0] at e) 0 (.inl rfl)
   ·split at h
    ·cases h
     obtain ⟨k1, k2⟩ := Fr.cons_neg hF hC t.at'
     exact ⟨fun e => by simp [St.to] at e, hop, hrl, fun e => by simp [St.to] at e, stk, hp, fun _ => ⟨B, k1, k2, hL⟩, fun e => by simp [St.to] at e, fun e => by simp [St.to] at e⟩
    ·cases h
theorem work_vd {s u : St} {lev : Int} (hv : Vd s) (hp4 : s.pl = 4) (h : workS s lev = .ok u) : ∃ stk t S B, Rf.putFrom [] u.ns = some stk ∧ stk.reverse = t :: S ∧ t.many = false ∧ t.dep + u.op.length ≤ 32 ∧ Fr u.op.length u.cur S B ∧ Ch u.cur ∧ LS u.op B ∧ ((t.lev < 6 → t.dep + 1 + u.op.length ≤ 32) ∨ lev ≤ t.lev) ∧ (∀ x r, u.cur = x :: r → ¬ lev ≤ Rf.levI x.op) ∧ u.op = s.op ∧ u.pl = 4 := by
 obtain ⟨hnm, hop, hrl, hz, stk, hp, h0, h4, h5⟩ := hv
 obtain ⟨t, S, B, hr, hcur, hF, hC, hL⟩ := h4 hp4
 obtain ⟨c, n, hw, rfl⟩ := workS_ok h
 obtain ⟨stk', t', S', k1, k2, k3, k4, k5, k6, k7, k8⟩ := wk_vd lev s.op.length s.cur s.ns stk t S c n hp hr hcur.1 hcur.2.1 (hcur.hd _) hF hC hw
 refine ⟨stk', t', S', B, k1, k2, k3, k4, k5, k6, hL, ?_, k8, rfl, hp4⟩
 rcases k7 with rfl | k7
 ·exact .inl hcur.2.2
 ·exact .inr k7
theorem all_made {c : List Wt} (h : ∀ x r, c = x :: r → ¬ (0 : Int) ≤ Rf.levI x.op) : c = [] := by
 cases c with
 | nil => rfl
 | cons x r => exact absurd (by have := (Rf.levI_is x.op).1; omega) (h x r rfl)
theorem ending_vd {T : ByteArray → List Bool → Bool} {s u : St} {t : Tk} (hk : t.kind ≠ 0) (hp : s.pl = 4 ∨ s.pl = 5) {stk B : List Rf.Th} {x : Rf.Th} (hput : Rf.putFrom [] s.ns = some stk) (hst : stk.reverse = x :: B) (hcur : s.cur = []) (hop : s.op.length ≤ 32) (hrl : ∀ l ∈ s.op, l.rl.length ≤ 15) (hls : LS s.op B) (hd : x.dep + s.op.length ≤ 32)
  (hm : s.pl = 4 → x.many = false) (h5 : s.pl = 5 → ∃ l r, s.op = l :: r ∧ l.nm.kind = 3) (h : endingS T s t = .ok u) : Vd u := by
 unfold endingS at h
 split at h
 ·exact next_vd h hput hst hcur hop hrl hls hd
 ·split at h
  ·refine close_vd h hput (A := [x]) hst hcur hop hrl hls (fun y hy => by simp at hy; subst hy; exact hd) ?_ ?_
   ·rw [if_neg (by clear h5 hm; omega)]; rfl
   ·intro l r ho hk3
    rcases hp with hp | hp
    ·exact ⟨x, rfl, hm hp⟩
    ·obtain ⟨l', r', e, hk'⟩ := h5 hp
     rw [ho] at e; cases e
     exact absurd hk' hk3
  ·split at h
   ·rename_i hc; exact absurd hc.1 hk
   ·cases h
theorem step_vd {K : ByteArray → Bool} {T : ByteArray → List Bool → Bool} {s u : St} {t : Tk} (hv : Vd s) (hpre : Pre s) (ht : TokV t) (hk : t.kind ≠ 0) (h : stepS K T s t = .ok u) : Vd u := by
 have hv' := hv
 obtain ⟨hnm, hop, hrl, hz, stk, hp, h0, h4, h5⟩ := hv
 unfold stepS at h
 split at h
 ·rename_i hc
  obtain ⟨B, hF, hC, hL⟩ := h0 zq17
  have hcur := hz (.inr (.inl hc.1))
  rw [hcur] at hF
  have hF' : stk.reverse = B := hF
  refine close_vd h hp (A := []) (B := B) hF' hcur hop hrl hL (fun y hy => by cases hy) (by rw [if_pos hc.1]; rfl) ?_
  intro l r ho hk3
  obtain ⟨l', r', e, hk'⟩ := hpre.first (.inr (.inl hc.1))
  rw [ho] at e; cases e
  exact absurd hk' hk3
 split at h
 ·rename_i hc
  obtain ⟨v, h1, h2⟩ := thenS_ok h
  obtain ⟨_, rfl⟩ := addS_ok h1
  cases h2
  obtain ⟨B, hF, hC, hL⟩ := h0 zq17
  have hcur : s.cur = [] := hz (by rcases hc.1 with h | h; exact .inr (.inl h); exact .inl h)
  rw [hcur] at hF
  have hF' : stk.reverse = B := hF
  have hs := step_leaf (stk := stk) (ht.2 hc.2) (by simp [rectNd]) (by simp [rectNd]) rfl
  exact ⟨fun e => by simp [St.to] at e, hop, hrl, fun _ => hcur, _, put_more hp hs, fun e => by simp [St.to] at e, fun e => by simp [St.to] at e, fun _ => ⟨⟨true, 7, 0⟩, stk.reverse, by simp [rectNd], rfl, by rw [hF']; exact hL⟩⟩
 split at h
 ·rename_i hc
  exact thing_vd hv' zq17 zq17 ht h
 split at h
 ·rename_i hc
  obtain ⟨B, hF, hC, hL⟩ := h0 zq17
  unfold openingS at h
  split at h
  ·obtain ⟨v, h1, h2⟩ := thenS_ok h
   obtain ⟨h32, rfl⟩ := openS_ok h1
   cases h2
   exact opened_vd hp hF hC hL hrl hop h32 s.nm (fun _ => hnm hc) 2 (.inr rfl)
  ·cases h
 split at h
 ·rename_i hc
  obtain ⟨x, S, B, hr, hcur, hF, hC, hL⟩ := h4 hc
  unfold workingS at h
  split at h
  ·obtain ⟨_, rfl⟩ := addS_ok h
   have hs : Rf.stepN stk (opNd 2) = some (S.reverse ++ [⟨false, 6, Rf.bump 2 true 0 x⟩]) := by
    rw [rev_top hr]; exact step_un (.inr rfl) hcur.1
   refine ⟨fun e => absurd (show s.pl = 3 from e) zq17, hop, hrl, fun e => absurd (show s.pl = 1 ∨ s.pl = 2 ∨ s.pl = 5 from e) zq17, _, put_more hp hs, fun e => absurd (show s.pl ≤ 3 from e) zq17, fun _ => ⟨⟨false, 6, Rf.bump 2 true 0 x⟩, S, B, by simp, ⟨rfl, ?_, fun e => by have : (6 : Int) < 6 := e; omega⟩, hF, hC, hL⟩, fun e => absurd (show s.pl = 5 from e) zq17⟩
   show Rf.bump 2 true 0 x + s.op.length ≤ 32
   by_cases hl : x.lev < 6
   ·have := hcur.2.2 hl; have := bump_le (op := 2) (i := 0) (t := x); omega
   ·rw [bump_no]; exact hcur.2.1
    unfold Rf.inBr
    have e : Rf.levI 2 = 6 := rfl
    rw [e]; simp; omega
  ·split at h
   ·obtain ⟨v, h1, h2⟩ := thenS_ok h
    obtain ⟨stk', t', S', B', k1, k2, k3, k4, k5, k6, k7, k8, k9, k10, k11⟩ := work_vd hv' hc h1
    have hc0 := all_made k9
    rw [hc0] at k5
    have hB : S' = B' := k5
    refine ending_vd hk (.inl k11) k1 k2 hc0 (by rw [k10]; exact hop) (by rw [k10]; exact hrl) (by rw [hB]; exact k7) k4 (fun _ => k3) (fun e => absurd e zq17) h2
   ·rename_i i hi
    obtain ⟨v, h1, h2⟩ := thenS_ok h
    obtain ⟨stk', t', S', B', k1, k2, k3, k4, k5, k6, k7, k8, k9, k10, k11⟩ := work_vd hv' hc h1
    cases h2
    have hi11 : i < 11 := by
     unfold oprI at hi
     split at hi
     ·unfold twoI at hi
      exact (List.findIdx?_eq_some_iff_getElem.1 hi).1
     ·cases hi
    have hlb := lev_bin (op := 3 + (i : Int)) zq17 zq17
    refine ⟨fun e => by simp [St.to] at e, by show v.op.length ≤ 32; rw [k10]; exact hop, by show ∀ l ∈ v.op, _; rw [k10]; exact hrl, fun e => by simp [St.to] at e, stk', k1, fun _ => ⟨B', .inr ⟨⟨by show 3 ≤ 3 + (i : Int); omega, by show 3 + (i : Int) ≤ 13; omega⟩, t', S', k2, ⟨k3, ?_⟩, k5⟩, ?_, k7⟩, fun e => by simp [St.to] at e, fun e => by simp [St.to] at e⟩
    ·show Rf.bump (3 + (i : Int)) true 0 t' + v.op.length ≤ 32
     rcases k8 with k8 | k8
     ·by_cases hl : t'.lev < 6
      ·have := k8 hl; have := bump_le (op := 3 + (i : Int)) (i := 0) (t := t'); omega
      ·rw [bump_no]; exact k4
       unfold Rf.inBr; simp; omega
     ·rw [bump_no]; exact k4
      unfold Rf.inBr; simp; omega
    ·cases hcu : v.cur with
     | nil => simp only [pushS, St.to, hcu]; trivial
     | cons y r =>
      simp only [pushS, St.to, hcu]
      have := k9 y r hcu
      refine ⟨fun hy => ?_, fun _ => by show Rf.levI y.op < Rf.levI (3 + (i : Int)); omega, by rw [← hcu]; exact k6⟩
      exfalso
      have e5 : Rf.levI y.op = 5 := by rw [hy]; rfl
      omega
 ·have hp5 : s.pl = 5 := by rcases hpre.pl with h | h | h | h | h | h <;> simp_all
  obtain ⟨x, S, hr, hd, hL⟩ := h5 hp5
  exact ending_vd hk (.inr hp5) hp hr (hz (.inr (.inr hp5))) hop hrl hL zq17 (fun e => absurd e zq17) (fun _ => hpre.first (.inr (.inr hp5))) h
end Go.Proofs.YtcmjhjnpcogmgaaGreatDoor
namespace Go.Proofs.YtcmjhjnpcogmgaaGreatDoor
open Go.Shelf Go.RowKit
theorem step_ns {K : ByteArray → Bool} {T : ByteArray → List Bool → Bool} {s u : St} {t : Tk} (h0 : s.ns.length ≤ 1024) (h : stepS K T s t = .ok u) : u.ns.length ≤ 1024 := by
 have hadd : ∀ {s u : St} {n : Rf.Nd} {a : Int}, s.ns.length ≤ 1024 → addS s n a = .ok u → u.ns.length ≤ 1024 := fun h0 h => by
  obtain ⟨h1, rfl⟩ := addS_ok h; simp; omega
 have hclose : ∀ {s u : St} {a : Int}, s.ns.length ≤ 1024 → closeS T s a = .ok u → u.ns.length ≤ 1024 := fun h0 h => by
  obtain ⟨l, r, ho, hh⟩ := closeS_ok h
  rcases hh with ⟨_, rl, _, _, h1, rfl⟩ | ⟨_, rfl⟩
  ·simp; omega
  ·exact h0
 have hend : ∀ {s u : St}, s.ns.length ≤ 1024 → endingS T s t = .ok u → u.ns.length ≤ 1024 := fun h0 h => by
  unfold endingS at h
  split at h
  ·obtain ⟨_, _, _, _, _, rfl⟩ := nextS_ok h; exact h0
  ·split at h
   ·exact hclose h0 h
   ·split at h
    ·cases h; exact h0
    ·cases h
 unfold stepS at h
 split at h
 ·exact hclose h0 h
 split at h
 ·obtain ⟨v, h1, h2⟩ := thenS_ok h
  have := hadd h0 h1
  cases h2; exact this
 split at h
 ·unfold thingS at h
  split at h
  ·obtain ⟨v, h1, h2⟩ := thenS_ok h
   have := hadd h0 h1
   cases h2; exact this
  ·split at h
   ·obtain ⟨_, _, rfl⟩ := namS_ok h; exact h0
   ·split at h
    ·obtain ⟨v, h1, h2⟩ := thenS_ok h
     obtain ⟨_, rfl⟩ := openS_ok h1
     cases h2; exact h0
    ·split at h
     ·cases h; exact h0
     ·cases h
 split at h
 ·unfold openingS at h
  split at h
  ·obtain ⟨v, h1, h2⟩ := thenS_ok h
   obtain ⟨_, rfl⟩ := openS_ok h1
   cases h2; exact h0
  ·cases h
 split at h
 ·unfold workingS at h
  split at h
  ·exact hadd h0 h
  ·split at h
   ·obtain ⟨v, h1, h2⟩ := thenS_ok h
    obtain ⟨c, n, hw, rfl⟩ := workS_ok h1
    exact hend ((wkS_ok _ _ _ _ _ hw).2.2 h0) h2
   ·obtain ⟨v, h1, h2⟩ := thenS_ok h
    obtain ⟨c, n, hw, rfl⟩ := workS_ok h1
    cases h2
    exact (wkS_ok _ _ _ _ _ hw).2.2 h0
 ·exact hend h0 h
theorem run_vd {K : ByteArray → Bool} {T : ByteArray → List Bool → Bool} : ∀ (l : List Tk) {s u : St}, Vd s → Pre s → s.ns.length ≤ 1024 → (∀ t ∈ l, TokV t ∧ t.kind ≠ 0) → runS K T s l = .ok u → Vd u ∧ Pre u ∧ u.ns.length ≤ 1024
 | [], s, u, hv, hp, hn, _, h => by cases h; exact ⟨hv, hp, hn⟩
 | t :: l, s, u, hv, hp, hn, hl, h => by
  obtain ⟨v, h1, h2⟩ := thenS_ok h
  have ht := hl t (by simp)
  exact run_vd l (step_vd hv hp ht.1 ht.2 h1) (step_pre hp h1).1 (step_ns hn h1) (fun t ht => hl t (by simp [ht])) h2
theorem vd0 : Vd st0 := ⟨fun e => (by simp [st0] at e), zq16, fun l hl => (by cases hl), fun _ => rfl, [], rfl, fun _ => ⟨[], rfl, trivial, rfl⟩, fun e => (by simp [st0] at e), fun e => (by simp [st0] at e)⟩
theorem sg_no {t : Tk} (h : t.kind ≠ 7) (s : ByteArray) : sgB t s = false := by
 unfold sgB
 have : (t.kind == 7) = false := by simpa using h
 rw [this]; rfl
theorem opr_no {t : Tk} (h : t.kind ≠ 7) : oprI t = none := by unfold oprI; rw [if_neg h]
theorem leaf_no {t : Tk} (h : t.kind = 0 ∨ t.kind = 8) : leafN t = none := by
 unfold leafN
 rw [if_neg zq17, if_neg zq17, if_neg zq17, if_neg zq17, if_neg zq17]
theorem step_last {K : ByteArray → Bool} {T : ByteArray → List Bool → Bool} {s u : St} {t : Tk} (hp : Pre s) (ht : t.kind = 0 ∨ t.kind = 8) (h : stepS K T s t = .ok u) : s.pl = 4 ∧ t.kind = 0 ∧ u.op = [] ∧ workS s 0 = .ok u := by
 have h7 : t.kind ≠ 7 := by omega
 have hs := sg_no h7
 have ho := opr_no h7
 have hend : ∀ {v : St}, endingS T v t = .ok u → t.kind = 0 ∧ v.op = [] ∧ u = v := fun hh => by
  unfold endingS at hh
  rw [hs, hs, if_neg (by simp), if_neg (by simp)] at hh
  split at hh
  ·rename_i hc; cases hh; exact ⟨hc.1, hc.2, rfl⟩
  ·cases hh
 unfold stepS at h
 rw [hs, if_neg (by simp), if_neg zq17] at h
 split at h
 ·unfold thingS at h
  rw [leaf_no ht] at h
  simp only [hs] at h
  rw [if_neg zq17] at h
  simp at h
 split at h
 ·unfold openingS at h
  rw [hs] at h
  simp at h
 split at h
 ·rename_i h4
  unfold workingS at h
  rw [hs, ho, if_neg (by simp)] at h
  obtain ⟨v, h1, h2⟩ := thenS_ok h
  obtain ⟨k1, k2, rfl⟩ := hend h2
  exact ⟨h4, k1, k2, h1⟩
 ·obtain ⟨k1, k2, _⟩ := hend h
  have hp5 : s.pl = 5 := by rcases hp.pl with h | h | h | h | h | h <;> simp_all
  obtain ⟨l, r, e, _⟩ := hp.first (.inr (.inr hp5))
  rw [k2] at e; cases e
theorem good_last : ∀ {l : List Tk} {n : Nat} {lo : Int}, Good n lo l → ∃ m t, l = m ++ [t] ∧ (t.kind = 0 ∨ t.kind = 8) ∧ ∀ u ∈ m, u.kind ≠ 0 ∧ u.kind ≠ 8
 | [], n, lo, h => h.elim
 | t :: r, n, lo, h => by
  obtain ⟨_, _, h3⟩ := h
  rcases h3 with ⟨rfl, h4⟩ | ⟨_, h8, h0, h4⟩
  ·exact ⟨[], t, rfl, zq17, fun u hu => by cases hu⟩
  ·obtain ⟨m, t', rfl, k1, k2⟩ := good_last h4
   refine ⟨t :: m, t', rfl, k1, fun u hu => ?_⟩
   rcases List.mem_cons.1 hu with rfl | hu
   ·exact ⟨h0, h8⟩
   ·exact k2 u hu
theorem tokv_no {t : Tk} (h1 : leafN t = none) (h5 : t.kind ≠ 5) : TokV t := ⟨fun n hn => (by rw [h1] at hn; cases hn), fun h => absurd h h5⟩
theorem tokv_0 (k : Int) (h : k = 0 ∨ k = 8) : TokV (tk0 k) := tokv_no (leaf_no h) (by show k ≠ 5; omega)
theorem pst_may : ∀ (l : List UInt8) (c r : Nat) {a b : Nat}, pst l c r = some (a, b) → 1 ≤ a ∧ a ≤ 4096 ∧ 1 ≤ b ∧ b ≤ 256 := by
 intro l
 induction l with
 | nil =>
  intro c r a b h
  rw [pst_nil] at h
  split at h
  ·rename_i hm; cases h; exact hm
  ·cases h
 | cons x l ih =>
  intro c r a b h
  unfold pst at h
  split at h
  ·split at h
   ·exact ih _ _ h
   ·cases h
  ·split at h
   ·split at h
    ·exact ih _ _ h
    ·cases h
   ·cases h
theorem pB_may {s : ByteArray} (h : pB s = true) : mayC (pR s) (pC s) = true := by
 cases ho : pO s with
 | none => rw [(pN ho).2.2] at h; cases h
 | some rc =>
  obtain ⟨r, c⟩ := rc
  obtain ⟨h1, h2, _⟩ := pS ho
  have := pst_may _ _ _ ho
  rw [h1, h2]
  exact mayC_t zq17
theorem named_is (s : ByteArray) : 0 ≤ Vv.namedC s ∧ Vv.namedC s ≤ 8 := by unfold Vv.namedC; (repeat' split) <;> omega
theorem tokv_rd (s : ByteArray) : TokV (rdT s) := by
 unfold rdT
 split
 ·exact tokv_0 0 (.inl rfl)
 split
 ·rename_i hb
  unfold rdNum
  split
  ·rename_i hok
   have hng : Dc.negS s = false := by
    unfold Dc.negS
    cases hl : s.data.toList with
    | nil => rw [hl] at hb; cases hb
    | cons c r =>
     rw [hl] at hb
     have hc : c ≠ 45 := by
      rintro rfl
      have hb' : DG.contains (45 : UInt8) = true := hb
      revert hb'; decide
     simp [Lib.hasPrefix, List.isPrefixOf]
     exact fun h => hc h.symm
   have hv : 0 ≤ Dc.parseV s := by
    unfold Dc.parseV
    rw [if_pos hok, hng]
    simp
   refine ⟨fun n hn => ?_, fun h => by cases h⟩
   have e : leafN (tkNum (Dc.parseV s)) = some ⟨1, 1, Dc.parseV s, ⟨#[]⟩, false, 0, 0, 0, 0, 0, 0, 0, 0, ⟨#[]⟩, 0⟩ := rfl
   rw [e] at hn; cases hn
   unfold Rf.mayN
   simp [Rf.sameN, Rf.standB, Vv.mayB]
   omega
  ·exact tokv_0 8 (.inr rfl)
 split
 ·unfold rdQ
  split
  ·refine ⟨fun n hn => ?_, fun h => by cases h⟩
   cases hn
   unfold Rf.mayN
   simp [Rf.sameN, Rf.standB, Vv.mayB]
  ·exact tokv_0 8 (.inr rfl)
 split
 ·unfold rdF
  split
  ·rename_i hc
   have hi := named_is s
   have h1 : Vv.namedC s ≠ 0 ∧ Vv.namedC s ≠ 1 := by
    simp [Vv.namedOk] at hc; exact hc
   refine ⟨fun n hn => ?_, fun h => by cases h⟩
   cases hn
   unfold Rf.mayN
   simp [Rf.sameN, Rf.standB, Vv.mayB, tkCode]
   omega
  ·exact tokv_0 8 (.inr rfl)
 split
 ·unfold rdW
  split
  ·unfold rdRect
   split
   ·rename_i hq
    refine ⟨fun n hn => (by cases hn), fun _ => ?_⟩
    obtain ⟨e1, e2, e3, e4⟩ := qS hq
    have hm : mayR (pR (cutA s)) (pC (cutA s)) (pR (cutB s)) (pC (cutB s)) = true := by
     unfold qB at hq
     simp only [Bool.and_eq_true] at hq
     exact hq.2.2
    unfold Rf.mayN
    simp [Rf.sameN, rectNd, tkRect, e1, e2, e3, e4, hm]
   ·exact tokv_0 8 (.inr rfl)
  ·split
   ·unfold rdCell
    split
    ·rename_i hq
     refine ⟨fun n hn => ?_, fun h => by cases h⟩
     cases hn
     unfold Rf.mayN
     simp [Rf.sameN, tkCell, pB_may hq]
    ·exact tokv_0 8 (.inr rfl)
   ·refine ⟨fun n hn => ?_, fun h => by cases h⟩
    have e : leafN (tkStr 3 s) = (truB s).map (fun b => ⟨1, 3, 0, ⟨#[]⟩, b, 0, 0, 0, 0, 0, 0, 0, 0, ⟨#[]⟩, 0⟩) := rfl
    rw [e] at hn
    cases hb : truB s with
    | none => rw [hb] at hn; cases hn
    | some b =>
     rw [hb] at hn; cases hn
     unfold Rf.mayN
     simp [Rf.sameN, Rf.standB, Vv.mayB]
 split
 ·exact tokv_no rfl (by simp [tkStr])
 ·exact tokv_0 8 (.inr rfl)
theorem tokv_all (x : ByteArray) : ∀ t ∈ toks x, TokV t := by
 intro t ht
 unfold toks at ht
 split at ht
 ·have hsub : ∀ (l : List Tk) (t : Tk), t ∈ cutW l → t ∈ l := by
   intro l
   induction l with
   | nil => intro t h; cases h
   | cons u r ih =>
    intro t h
    rw [cutW, List.mem_cons] at h
    rcases h with rfl | h
    ·simp
    ·split at h
     ·cases h
     ·exact List.mem_cons_of_mem _ (ih t h)
  obtain ⟨y, _, rfl⟩ := List.mem_map.1 (hsub _ _ ht)
  exact tokv_rd (bs y.2)
 ·simp at ht; subst ht; exact tokv_0 8 (.inr rfl)
theorem read_may {K : ByteArray → Bool} {T : ByteArray → List Bool → Bool} {x : ByteArray} {ns : List Rf.Nd} (h : readS K T (toks x) = .ok ns) : Rf.chkI ns = 0 := by
 unfold readS at h
 cases hr : runS K T st0 (toks x) with
 | error e => rw [hr] at h; cases h
 | ok u =>
  rw [hr] at h; cases h
  obtain ⟨m, t, hm, hk, hall⟩ := good_last (good_toks x)
  rw [hm, runS_snoc] at hr
  obtain ⟨v, h1, h2⟩ := thenS_ok hr
  obtain ⟨hv, hp, hn⟩ := run_vd m vd0 pre_st0 zq16 (fun y hy => ⟨tokv_all x y (by rw [hm]; simp [hy]), (hall y hy).1⟩) h1
  obtain ⟨k1, k2, k3, k4⟩ := step_last hp hk h2
  obtain ⟨stk, t', S, B, j1, j2, j3, j4, j5, j6, j7, j8, j9, j10, j11⟩ := work_vd hv k1 k4
  have hc0 := all_made j9
  rw [hc0] at j5
  have hB : S = B := j5
  rw [k3] at j7 j4
  have hB0 : B = [] := j7
  rw [hB, hB0] at j2
  have hst : stk = [t'] := by
   have := rev_top j2
   simpa using this
  have hlen : ¬ 1024 < u.ns.length := by
   obtain ⟨c, n, hw, rfl⟩ := workS_ok k4
   have := (wkS_ok _ _ _ _ _ hw).2.2 hn
   show ¬ 1024 < n.length; omega
  unfold Rf.chkI Rf.measN
  rw [if_neg hlen, j1, hst]
  have e : (some [t']).bind Rf.measL = some t'.dep := by
   show Rf.measL [t'] = _
   simp [Rf.measL, j3]
  rw [e]
  have hd : t'.dep ≤ 32 := by simpa using j4
  simp [hd]
end Go.Proofs.YtcmjhjnpcogmgaaGreatDoor
