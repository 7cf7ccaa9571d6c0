/- The plain model of parse's reader: its state, and what each token makes of it -/
import Derived.Test.YtcmjhjnpcogmgaaGreatDoorUAuto
import Derived.Test.YtcmjhjnpcogmgaaGreatDoorUPVPV2
import Derived.Test.YtcmjhjnpcogmgaaGreatDoorUPSPS2
import Derived.Test.YtcmjhjnpcogmgaaGreatDoorUPN3
set_option linter.all false
set_option maxRecDepth 100000
set_option maxHeartbeats 4000000
namespace Go.Proofs.YtcmjhjnpcogmgaaGreatDoor
open Go.Shelf Go.RowKit
structure Lv where
 nm : Tk
 rl : List Bool
 out : List Wt
structure St where
 pl : Int
 nm : Tk
 ns : List Rf.Nd
 op : List Lv
 cur : List Wt
def aheadOf : List Lv → Nat
 | [] => 0
 | l :: r => l.out.length + aheadOf r
def outs : List Lv → List Wt
 | [] => []
 | l :: r => l.out ++ outs r
theorem outs_len : ∀ l : List Lv, (outs l).length = aheadOf l
 | [] => rfl
 | l :: r => by rw [outs, aheadOf, List.length_append, outs_len r]
def St.all (s : St) : List Wt := s.cur ++ outs s.op
def St.ct (s : St) : Nat := s.cur.length + aheadOf s.op
theorem St.all_len (s : St) : s.all.length = s.ct := by unfold St.all St.ct; rw [List.length_append, outs_len]
abbrev Rs := Except (Int × Int) St
def callNd (s : ByteArray) (n : Nat) : Rf.Nd := ⟨5, 0, 0, ⟨#[]⟩, false, 0, 0, 0, 0, 0, 0, 0, 0, s, (n : Int)⟩
def rectNd (t : Tk) : Rf.Nd := ⟨3, 0, 0, ⟨#[]⟩, false, 0, 0, 0, t.r0, t.r1, t.r2, t.r3, 0, ⟨#[]⟩, 0⟩
def thenS (r : Rs) (f : St → Rs) : Rs := match r with
 | .ok s => f s
 | .error e => .error e
def St.to (s : St) (p : Int) : St := ⟨p, s.nm, s.ns, s.op, s.cur⟩
def addS (s : St) (n : Rf.Nd) (a : Int) : Rs := if s.ns.length = 1024 then .error (8, a) else .ok ⟨s.pl, s.nm, s.ns ++ [n], s.op, s.cur⟩
def openS (s : St) (a : Int) (nm : Tk) : Rs := if s.op.length = 32 then .error (7, a) else .ok ⟨s.pl, s.nm, s.ns, ⟨nm, [], s.cur⟩ :: s.op, []⟩
def nextS (s : St) (a : Int) : Rs := match s.op with
 | [] => .error (8, a)
 | l :: r => if l.nm.kind = 3 ∧ l.rl.length ≠ 15 then .ok ⟨1, s.nm, s.ns, ⟨l.nm, l.rl ++ [s.pl == 5], l.out⟩ :: r, s.cur⟩ else .error (8, a)
def callS (T : ByteArray → List Bool → Bool) (s : St) (nm : Tk) (rl : List Bool) : Rs := if T nm.str rl = true then addS s (callNd nm.str rl.length) nm.at' else .error (8, nm.at')
def closeS (T : ByteArray → List Bool → Bool) (s : St) (a : Int) : Rs := match s.op with
 | [] => .error (8, a)
 | l :: r => if l.nm.kind = 3 then thenS (callS T ⟨s.pl, s.nm, s.ns, r, s.cur ++ l.out⟩ l.nm (if s.pl = 2 then l.rl else l.rl ++ [s.pl == 5])) (fun u => .ok (u.to 4)) else .ok ⟨4, s.nm, s.ns, r, s.cur ++ l.out⟩
def pushS (s : St) (op a : Int) : St := ⟨s.pl, s.nm, s.ns, s.op, ⟨op, a⟩ :: s.cur⟩
def wkS (lev : Int) : List Wt → List Rf.Nd → Except Int (List Wt × List Rf.Nd)
 | [], ns => .ok ([], ns)
 | x :: r, ns => if lev ≤ Rf.levI x.op then (if ns.length = 1024 then .error x.at' else wkS lev r (ns ++ [opNd x.op])) else .ok (x :: r, ns)
def workS (s : St) (lev : Int) : Rs := match wkS lev s.cur s.ns with
 | .ok (c, n) => .ok ⟨s.pl, s.nm, n, s.op, c⟩
 | .error a => .error (8, a)
def namS (K : ByteArray → Bool) (s : St) (t : Tk) : Rs := if mayNm t.str = true ∧ K t.str = true then .ok ⟨3, t, s.ns, s.op, s.cur⟩ else .error (8, t.at')
def thingS (K : ByteArray → Bool) (s : St) (t : Tk) : Rs := match leafN t with
 | some n => thenS (addS s n t.at') (fun u => .ok (u.to 4))
 | none => if t.kind = 3 then namS K s t else if sgB t ⟨#[40]⟩ = true then thenS (openS s t.at' (tk0 0)) (fun u => .ok (u.to 0)) else if sgB t ⟨#[45]⟩ = true then .ok ((pushS s 1 t.at').to 0) else .error (8, t.at')
def openingS (s : St) (t : Tk) : Rs := if sgB t ⟨#[40]⟩ = true then thenS (openS s t.at' s.nm) (fun u => .ok (u.to 2)) else .error (8, t.at')
def endingS (T : ByteArray → List Bool → Bool) (s : St) (t : Tk) : Rs :=
 if sgB t ⟨#[44]⟩ = true then nextS s t.at' else if sgB t ⟨#[41]⟩ = true then closeS T s t.at' else if t.kind = 0 ∧ s.op = [] then .ok s else .error (8, t.at')
def workingS (T : ByteArray → List Bool → Bool) (s : St) (t : Tk) : Rs :=
 if sgB t ⟨#[37]⟩ = true then addS s (opNd 2) t.at' else match oprI t with
  | none => thenS (workS s 0) (fun u => endingS T u t)
  | some i => thenS (workS s (Rf.levI (3 + (i : Int)))) (fun u => .ok ((pushS u (3 + (i : Int)) t.at').to 0))
def stepS (K : ByteArray → Bool) (T : ByteArray → List Bool → Bool) (s : St) (t : Tk) : Rs :=
 if s.pl = 2 ∧ sgB t ⟨#[41]⟩ = true then closeS T s t.at'
 else if (s.pl = 2 ∨ s.pl = 1) ∧ t.kind = 5 then thenS (addS s (rectNd t) t.at') (fun u => .ok (u.to 5))
 else if s.pl = 2 ∨ s.pl = 1 ∨ s.pl = 0 then thingS K s t
 else if s.pl = 3 then openingS s t
 else if s.pl = 4 then workingS T s t
 else endingS T s t
def runS (K : ByteArray → Bool) (T : ByteArray → List Bool → Bool) : St → List Tk → Rs
 | s, [] => .ok s
 | s, t :: r => thenS (stepS K T s t) (fun u => runS K T u r)
def st0 : St := ⟨0, tk0 0, [], [], []⟩
def readS (K : ByteArray → Bool) (T : ByteArray → List Bool → Bool) (ts : List Tk) : Except (Int × Int) (List Rf.Nd) := match runS K T st0 ts with
 | .ok s => .ok s.ns
 | .error e => .error e
theorem runS_snoc (K : ByteArray → Bool) (T : ByteArray → List Bool → Bool) : ∀ (l : List Tk) (s : St) (t : Tk), runS K T s (l ++ [t]) = thenS (runS K T s l) (fun u => stepS K T u t)
 | [], s, t => by
  show thenS (stepS K T s t) (fun u => .ok u) = stepS K T s t
  unfold thenS; cases stepS K T s t <;> rfl
 | x :: l, s, t => by
  show thenS (stepS K T s x) (fun u => runS K T u (l ++ [t])) = thenS (thenS (stepS K T s x) (fun u => runS K T u l)) (fun u => stepS K T u t)
  cases h : stepS K T s x with
  | error e => rfl
  | ok u => exact runS_snoc K T l u t
structure Fit (s : St) : Prop where
 ns : s.ns.length ≤ 1024
 op : s.op.length ≤ 32
 rl : ∀ l ∈ s.op, l.rl.length ≤ 15
structure Pre (s : St) : Prop where
 pl : s.pl = 0 ∨ s.pl = 1 ∨ s.pl = 2 ∨ s.pl = 3 ∨ s.pl = 4 ∨ s.pl = 5
 thing : s.pl = 4 ∨ s.pl = 5 → s.ns ≠ []
 first : s.pl = 1 ∨ s.pl = 2 ∨ s.pl = 5 → ∃ l r, s.op = l :: r ∧ l.nm.kind = 3
 name : s.pl = 3 → s.nm.kind = 3
structure Ring (rm : List Wt) (ws : List Wt) (hi n : Nat) : Prop where
 len : rm.length = min hi 1024
 up : ws.length ≤ hi
 few : hi - ws.length ≤ n - 1
 at' : ∀ j x, ws[j]? = some x → hi ≤ (ws.length - 1 - j) + 1024 → rm[(ws.length - 1 - j) % 1024]? = some x
theorem Ring.nil : Ring [] [] 0 0 := ⟨rfl, Nat.le_refl _, Nat.le_refl _, fun j x h => by simp at h⟩
theorem Ring.more {rm ws : List Wt} {hi n m : Nat} (h : Ring rm ws hi n) (hm : n ≤ m) : Ring rm ws hi m := ⟨h.len, h.up, by have := h.few; omega, h.at'⟩
theorem Ring.app {rm ws : List Wt} {hi n : Nat} (h : Ring rm ws hi n) (hn : n ≤ 1024) (hk : ws.length % 1024 = rm.length) (x : Wt) : Ring (rm ++ [x]) (x :: ws) (max hi (ws.length + 1)) n := by
 obtain ⟨h1, h2, h3, h4⟩ := h
 have hw : rm.length = ws.length := by omega
 have hhi : hi = ws.length := by omega
 subst hhi
 refine ⟨by simp; omega, by simp, by simp, ?_⟩
 intro j y hj hh
 cases j with
 | zero =>
  simp at hj; subst hj
  simp only [List.length_cons, Nat.add_sub_cancel, Nat.sub_zero]
  rw [hk]; simp
 | succ j =>
  have hj' : ws[j]? = some y := by simpa using hj
  have hjl := (List.getElem?_eq_some_iff.1 hj').1
  have e : (x :: ws).length - 1 - (j + 1) = ws.length - 1 - j := by simp; omega
  rw [e]
  have := h4 j y hj' zq17
  rw [List.getElem?_append_left (by rw [← hk]; have := (List.getElem?_eq_some_iff.1 this).1; omega)]
  exact this
theorem Ring.put {rm ws : List Wt} {hi n : Nat} (h : Ring rm ws hi n) (hk : ws.length % 1024 < rm.length) (x : Wt) : Ring (rm.set (ws.length % 1024) x) (x :: ws) (max hi (ws.length + 1)) n := by
 obtain ⟨h1, h2, h3, h4⟩ := h
 refine ⟨by simp; omega, by simp; omega, by simp; omega, ?_⟩
 intro j y hj hh
 cases j with
 | zero =>
  simp at hj; subst hj
  simp only [List.length_cons, Nat.add_sub_cancel, Nat.sub_zero]
  simp [hk]
 | succ j =>
  have hj' : ws[j]? = some y := by simpa using hj
  have hjl := (List.getElem?_eq_some_iff.1 hj').1
  have e : (x :: ws).length - 1 - (j + 1) = ws.length - 1 - j := by simp; omega
  rw [e] at hh ⊢
  have := h4 j y hj' zq17
  rw [List.getElem?_set_ne zq17]
  exact this
theorem Ring.pop {rm ws : List Wt} {hi n : Nat} {x : Wt} (h : Ring rm (x :: ws) hi n) (hn : 0 < n) : Ring rm ws hi (n + 1) := by
 obtain ⟨h1, h2, h3, h4⟩ := h
 simp at h2 h3
 refine ⟨h1, zq17, zq17, ?_⟩
 intro j y hj hh
 have hjl := (List.getElem?_eq_some_iff.1 hj).1
 have := h4 (j + 1) y (by simpa using hj) (by simp; omega)
 have e : (x :: ws).length - 1 - (j + 1) = ws.length - 1 - j := by simp; omega
 rwa [e] at this
theorem Ring.top {rm ws : List Wt} {hi n : Nat} {x : Wt} (h : Ring rm (x :: ws) hi n) (hn : n ≤ 1024) : rm[ws.length % 1024]? = some x := by
 obtain ⟨h1, h2, h3, h4⟩ := h
 simp at h2 h3
 have := h4 0 x rfl (by simp; omega)
 simpa using this
theorem wrk_wkS (lev : Int) {rm o : List Wt} {hi : Nat} : ∀ (c : List Wt) (ns : List Rf.Nd), Ring rm (c ++ o) hi ns.length → 0 < ns.length → ns.length ≤ 1024 →
  wrk rm o.length lev (c.length + o.length) ns = (match wkS lev c ns with | .ok (c', n') => .ok (c'.length + o.length, n') | .error a => .error a) ∧
  (∀ c' n', wkS lev c ns = .ok (c', n') → Ring rm (c' ++ o) hi n'.length ∧ 0 < n'.length ∧ n'.length ≤ 1024)
 | [], ns, h, h0, h1 => by
  refine ⟨?_, ?_⟩
  ·rw [wrk_end (by simp)]; simp [wkS]
  ·intro c' n' e; simp [wkS] at e; obtain ⟨rfl, rfl⟩ := e; exact ⟨h, h0, h1⟩
 | x :: c, ns, h, h0, h1 => by
  have h' : Ring rm (x :: (c ++ o)) hi ns.length := h
  have hx := h'.top h1
  rw [List.length_append] at hx
  have e : (x :: c).length + o.length = (c.length + o.length) + 1 := by simp; omega
  rw [e]
  by_cases hl : lev ≤ Rf.levI x.op
  ·by_cases hn : ns.length = 1024
   ·rw [wrk_full hx zq17 hl hn]
    refine ⟨?_, ?_⟩
    ·simp [wkS, hl, hn]
    ·intro c' n' e; simp [wkS, hl, hn] at e
   ·rw [wrk_more hx zq17 hl hn]
    have ih := wrk_wkS lev c (ns ++ [opNd x.op]) (by have := Ring.pop h' h0; simpa using this) (by simp) (by simp; omega)
    refine ⟨?_, ?_⟩
    ·rw [ih.1]; simp [wkS, hl, hn]
    ·intro c' n' e; simp only [wkS, hl, hn, if_true, if_false] at e; exact ih.2 c' n' e
  ·rw [wrk_low hx hl]
   refine ⟨?_, ?_⟩
   ·simp [wkS, hl]; omega
   ·intro c' n' e; simp [wkS, hl] at e; obtain ⟨rfl, rfl⟩ := e; exact ⟨h, h0, h1⟩
end Go.Proofs.YtcmjhjnpcogmgaaGreatDoor
namespace Go.Proofs.YtcmjhjnpcogmgaaGreatDoor
open Go.Shelf Go.RowKit
theorem thenS_ok {r : Rs} {f : St → Rs} {u : St} (h : thenS r f = .ok u) : ∃ v, r = .ok v ∧ f v = .ok u := by
 cases r with
 | ok v => exact ⟨v, rfl, h⟩
 | error e => cases h
theorem addS_ok {s u : St} {n : Rf.Nd} {a : Int} (h : addS s n a = .ok u) : s.ns.length ≠ 1024 ∧ u = ⟨s.pl, s.nm, s.ns ++ [n], s.op, s.cur⟩ := by
 unfold addS at h
 split at h
 ·cases h
 ·cases h; exact ⟨zq15, rfl⟩
theorem openS_ok {s u : St} {nm : Tk} {a : Int} (h : openS s a nm = .ok u) : s.op.length ≠ 32 ∧ u = ⟨s.pl, s.nm, s.ns, ⟨nm, [], s.cur⟩ :: s.op, []⟩ := by
 unfold openS at h
 split at h
 ·cases h
 ·cases h; exact ⟨zq15, rfl⟩
theorem nextS_ok {s u : St} {a : Int} (h : nextS s a = .ok u) : ∃ l r, s.op = l :: r ∧ l.nm.kind = 3 ∧ l.rl.length ≠ 15 ∧ u = ⟨1, s.nm, s.ns, ⟨l.nm, l.rl ++ [s.pl == 5], l.out⟩ :: r, s.cur⟩ := by
 unfold nextS at h
 split at h
 ·cases h
 ·rename_i l r ho
  split at h
  ·rename_i hc
   cases h; exact ⟨l, r, ho, hc.1, hc.2, rfl⟩
  ·cases h
theorem callS_ok {T : ByteArray → List Bool → Bool} {s u : St} {nm : Tk} {rl : List Bool} (h : callS T s nm rl = .ok u) : T nm.str rl = true ∧ s.ns.length ≠ 1024 ∧ u = ⟨s.pl, s.nm, s.ns ++ [callNd nm.str rl.length], s.op, s.cur⟩ := by
 unfold callS at h
 split at h
 ·obtain ⟨h1, h2⟩ := addS_ok h
  exact ⟨zq15, h1, h2⟩
 ·cases h
theorem closeS_ok {T : ByteArray → List Bool → Bool} {s u : St} {a : Int} (h : closeS T s a = .ok u) : ∃ l r, s.op = l :: r ∧
  ((l.nm.kind = 3 ∧ ∃ rl, rl = (if s.pl = 2 then l.rl else l.rl ++ [s.pl == 5]) ∧ T l.nm.str rl = true ∧ s.ns.length ≠ 1024 ∧ u = ⟨4, s.nm, s.ns ++ [callNd l.nm.str rl.length], r, s.cur ++ l.out⟩) ∨ (l.nm.kind ≠ 3 ∧ u = ⟨4, s.nm, s.ns, r, s.cur ++ l.out⟩)) := by
 unfold closeS at h
 split at h
 ·cases h
 ·rename_i l r ho
  split at h
  ·obtain ⟨v, h1, h2⟩ := thenS_ok h
   obtain ⟨h3, h4, h5⟩ := callS_ok h1
   cases h2
   exact ⟨l, r, ho, .inl ⟨zq15, _, rfl, h3, h4, by rw [h5]; rfl⟩⟩
  ·cases h
   exact ⟨l, r, ho, .inr ⟨zq15, rfl⟩⟩
theorem wkS_ok (lev : Int) : ∀ (c : List Wt) (ns : List Rf.Nd) (c' : List Wt) (n' : List Rf.Nd), wkS lev c ns = .ok (c', n') → c'.length ≤ c.length ∧ ns.length ≤ n'.length ∧ (ns.length ≤ 1024 → n'.length ≤ 1024)
 | [], ns, c', n', h => by simp [wkS] at h; obtain ⟨rfl, rfl⟩ := h; exact ⟨Nat.le_refl _, Nat.le_refl _, fun h => h⟩
 | x :: r, ns, c', n', h => by
  simp only [wkS] at h
  split at h
  ·split at h
   ·cases h
   ·obtain ⟨h1, h2, h3⟩ := wkS_ok lev r _ c' n' h
    simp at h1 h2 h3 ⊢
    exact ⟨zq17, zq17, fun h => h3 zq17⟩
  ·cases h; exact ⟨Nat.le_refl _, Nat.le_refl _, fun h => h⟩
theorem workS_ok {s u : St} {lev : Int} (h : workS s lev = .ok u) : ∃ c n, wkS lev s.cur s.ns = .ok (c, n) ∧ u = ⟨s.pl, s.nm, n, s.op, c⟩ := by
 unfold workS at h
 cases hw : wkS lev s.cur s.ns with
 | error a => rw [hw] at h; cases h
 | ok cn => rw [hw] at h; cases h; exact ⟨cn.1, cn.2, rfl, rfl⟩
theorem namS_ok {K : ByteArray → Bool} {s u : St} {t : Tk} (h : namS K s t = .ok u) : mayNm t.str = true ∧ K t.str = true ∧ u = ⟨3, t, s.ns, s.op, s.cur⟩ := by
 unfold namS at h
 split at h
 ·rename_i hc; cases h; exact ⟨hc.1, hc.2, rfl⟩
 ·cases h
theorem pre4 {s : St} (h : s.pl = 4) (h0 : s.ns ≠ []) : Pre s := ⟨zq17, fun _ => h0, fun hh => by omega, fun hh => by omega⟩
theorem pre0 {s : St} (h : s.pl = 0) : Pre s := ⟨zq17, fun hh => by omega, fun hh => by omega, fun hh => by omega⟩
theorem close_pre {T : ByteArray → List Bool → Bool} {s u : St} {a : Int} (hp : s.pl = 2 → ∃ l r, s.op = l :: r ∧ l.nm.kind = 3) (h0 : s.pl ≠ 2 → s.ns ≠ []) (h : closeS T s a = .ok u) : Pre u ∧ u.ct = s.ct := by
 obtain ⟨l, r, ho, hh⟩ := closeS_ok h
 rcases hh with ⟨hk, rl, _, _, _, rfl⟩ | ⟨hk, rfl⟩
 ·exact ⟨pre4 rfl (by simp), by simp [St.ct, ho, aheadOf]; omega⟩
 ·refine ⟨pre4 rfl ?_, by simp [St.ct, ho, aheadOf]; omega⟩
  by_cases h2 : s.pl = 2
  ·obtain ⟨l', r', e, hk'⟩ := hp h2
   rw [ho] at e; cases e
   exact absurd hk' hk
  ·exact h0 h2
theorem ending_pre {T : ByteArray → List Bool → Bool} {s u : St} {t : Tk} (hp : s.pl = 4 ∨ s.pl = 5) (h0 : s.ns ≠ []) (h5 : s.pl = 5 → ∃ l r, s.op = l :: r ∧ l.nm.kind = 3) (h : endingS T s t = .ok u) : Pre u ∧ u.ct = s.ct := by
 unfold endingS at h
 split at h
 ·obtain ⟨l, r, ho, hk, _, rfl⟩ := nextS_ok h
  exact ⟨⟨by simp, fun hh => by simp at hh, fun _ => ⟨_, _, rfl, hk⟩, fun hh => by simp at hh⟩, by simp [St.ct, ho, aheadOf]⟩
 ·split at h
  ·exact close_pre (fun h2 => absurd h2 (by clear h5; omega)) (fun _ => h0) h
  ·split at h
   ·rename_i hc
    cases h
    refine ⟨⟨?_, fun _ => h0, fun hh => h5 ?_, fun hh => ?_⟩, rfl⟩
    ·clear h5; omega
    ·clear h5; omega
    ·clear h5; omega
   ·cases h
theorem step_pre {K : ByteArray → Bool} {T : ByteArray → List Bool → Bool} {s u : St} {t : Tk} (hp : Pre s) (h : stepS K T s t = .ok u) : Pre u ∧ u.ct ≤ s.ct + 1 := by
 unfold stepS at h
 split at h
 ·rename_i hc
  have := close_pre (fun h2 => hp.first (.inr (.inl h2))) (fun h2 => absurd hc.1 h2) h
  exact ⟨this.1, zq17⟩
 split at h
 ·rename_i hc
  obtain ⟨v, h1, h2⟩ := thenS_ok h
  obtain ⟨_, rfl⟩ := addS_ok h1
  cases h2
  exact ⟨⟨by simp [St.to], fun _ => by simp [St.to], fun _ => hp.first (by rcases hc.1 with h | h; exact .inr (.inl h); exact .inl h), fun hh => by simp [St.to] at hh⟩, by simp [St.ct, St.to]⟩
 split at h
 ·unfold thingS at h
  split at h
  ·obtain ⟨v, h1, h2⟩ := thenS_ok h
   obtain ⟨_, rfl⟩ := addS_ok h1
   cases h2
   exact ⟨pre4 rfl (by simp [St.to]), by simp [St.ct, St.to]⟩
  ·split at h
   ·rename_i hk
    obtain ⟨_, _, rfl⟩ := namS_ok h
    exact ⟨⟨by simp, fun hh => by simp at hh, fun hh => by simp at hh, fun _ => hk⟩, by simp [St.ct]⟩
   ·split at h
    ·obtain ⟨v, h1, h2⟩ := thenS_ok h
     obtain ⟨_, rfl⟩ := openS_ok h1
     cases h2
     exact ⟨pre0 rfl, by simp [St.ct, St.to, aheadOf]⟩
    ·split at h
     ·cases h
      exact ⟨pre0 rfl, by simp [St.ct, St.to, pushS]; omega⟩
     ·cases h
 split at h
 ·rename_i hc
  unfold openingS at h
  split at h
  ·obtain ⟨v, h1, h2⟩ := thenS_ok h
   obtain ⟨_, rfl⟩ := openS_ok h1
   cases h2
   exact ⟨⟨by simp [St.to], fun hh => by simp [St.to] at hh, fun _ => ⟨_, _, rfl, hp.name hc⟩, fun hh => by simp [St.to] at hh⟩, by simp [St.ct, St.to, aheadOf]⟩
  ·cases h
 split at h
 ·rename_i hc
  unfold workingS at h
  split at h
  ·obtain ⟨_, rfl⟩ := addS_ok h
   exact ⟨pre4 hc (by simp), by simp [St.ct]⟩
  ·split at h
   ·obtain ⟨v, h1, h2⟩ := thenS_ok h
    obtain ⟨c, n, hw, rfl⟩ := workS_ok h1
    obtain ⟨k1, k2, _⟩ := wkS_ok _ _ _ _ _ hw
    have hn : n ≠ [] := by
     have := hp.thing (.inl hc)
     intro e; rw [e] at k2
     exact this (List.eq_nil_of_length_eq_zero (by simpa using k2))
    have := ending_pre (s := ⟨s.pl, s.nm, n, s.op, c⟩) (.inl hc) hn (fun h5 => absurd (show s.pl = 5 from h5) zq17) h2
    refine ⟨this.1, ?_⟩
    rw [this.2]; unfold St.ct; simp; omega
   ·obtain ⟨v, h1, h2⟩ := thenS_ok h
    obtain ⟨c, n, hw, rfl⟩ := workS_ok h1
    obtain ⟨k1, k2, _⟩ := wkS_ok _ _ _ _ _ hw
    cases h2
    exact ⟨pre0 rfl, by simp [St.ct, St.to, pushS]; omega⟩
 ·rename_i a1 a2 a3 a4 a5
  have h5 : s.pl = 5 := by rcases hp.pl with h | h | h | h | h | h <;> simp_all
  have := ending_pre (.inr h5) (hp.thing (.inr h5)) (fun _ => hp.first (.inr (.inr h5))) h
  exact ⟨this.1, zq17⟩
theorem run_pre {K : ByteArray → Bool} {T : ByteArray → List Bool → Bool} : ∀ (l : List Tk) {s u : St}, Pre s → runS K T s l = .ok u → Pre u ∧ u.ct ≤ s.ct + l.length
 | [], s, u, hp, h => by cases h; exact ⟨hp, by simp⟩
 | t :: l, s, u, hp, h => by
  obtain ⟨v, h1, h2⟩ := thenS_ok h
  obtain ⟨h3, h4⟩ := step_pre hp h1
  obtain ⟨h5, h6⟩ := run_pre l h3 h2
  exact ⟨h5, by simp; omega⟩
theorem runS_app (K : ByteArray → Bool) (T : ByteArray → List Bool → Bool) : ∀ (l m : List Tk) (s : St), runS K T s (l ++ m) = thenS (runS K T s l) (fun u => runS K T u m)
 | [], m, s => rfl
 | x :: l, m, s => by
  show thenS (stepS K T s x) (fun u => runS K T u (l ++ m)) = thenS (thenS (stepS K T s x) (fun u => runS K T u l)) (fun u => runS K T u m)
  cases h : stepS K T s x with
  | error e => rfl
  | ok u => exact runS_app K T l m u
theorem runS_no {K : ByteArray → Bool} {T : ByteArray → List Bool → Bool} {l : List Tk} {k : Nat} {s : St} {e : Int × Int} (h : runS K T s (l.take k) = .error e) : runS K T s l = .error e := by
 rw [← List.take_append_drop k l, runS_app, h]; rfl
theorem runS_at {K : ByteArray → Bool} {T : ByteArray → List Bool → Bool} {l : List Tk} {k : Nat} {s u : St} {t : Tk} (h : runS K T s (l.take k) = .ok u) (ht : l[k]? = some t) : runS K T s (l.take (k + 1)) = stepS K T u t := by
 rw [List.take_add_one, ht]
 show runS K T s (l.take k ++ [t]) = _
 rw [runS_snoc, h]; rfl
theorem pre_st0 : Pre st0 := pre0 rfl
theorem ct_st0 : st0.ct = 0 := rfl
end Go.Proofs.YtcmjhjnpcogmgaaGreatDoor
