/- A clock in memory: who has which stamps, in which block. No function's text is walked here. -/
import Derived.Test.YtmajbophgdimlaaEKp
namespace Go.Proofs.Ytmajbophgdimlaa
open Go.RowKit
set_option linter.all false
/-- Of each cell: when it changed, when it was seen; none: it has no stamps. -/
abbrev St : Type := Int → Int → Option (Int × Int)
def upS (S : St) (x y : Int) (p : Option (Int × Int)) : St := fun a b => if a = x ∧ b = y then p else S a b
theorem upS_same (S : St) (x y : Int) (p : Option (Int × Int)) : upS S x y p x y = p := if_pos ⟨rfl, rfl⟩
theorem upS_other {S : St} {x y a b : Int} {p : Option (Int × Int)} (h : ¬ (a = x ∧ b = y)) : upS S x y p a b = S a b := if_neg h
def chg (S : St) (x y : Int) : Int := match S x y with | none => 0 | some p => p.1
def sen (S : St) (x y : Int) : Int := match S x y with | none => 0 | some p => p.2
/-- What the map holds. -/
def vf (S : St) (G : Int → Int → Nat) : Int → Int → Value := fun x y => match S x y with | none => nilS | some _ => .pointer (some ⟨G x y, 0, none⟩)
theorem vf_none {S : St} {G : Int → Int → Nat} {x y : Int} (h : S x y = none) : vf S G x y = nilS := by unfold vf; rw [h]
theorem vf_some {S : St} {G : Int → Int → Nat} {x y : Int} {p : Int × Int} (h : S x y = some p) : vf S G x y = .pointer (some ⟨G x y, 0, none⟩) := by unfold vf; rw [h]
/-- A clock at N, its map at bm; the blocks of F are none of its own. -/
structure Ck (F : Nat → Prop) (w : World) (N bm : Nat) (G : Int → Int → Nat) (most last turns : Int) (S : St) (n : Nat) : Prop where
  own : Own w N #[.int .i64 most, .int .i64 last, .int .i64 turns, .map (some bm)]
  map : MapF w bm n (vf S G)
  st : ∀ x y p, S x y = some p → (I64 x ∧ I64 y) ∧ Own w (G x y) #[.int .i64 p.1, .int .i64 p.2]
  dis : ∀ x y a b p q, S x y = some p → S a b = some q → G x y = G a b → x = a ∧ y = b
  ne : ∀ x y p, S x y = some p → G x y ≠ N ∧ G x y ≠ bm
  nb : N ≠ bm
  fN : ¬ F N
  fB : ¬ F bm
  fG : ∀ x y p, S x y = some p → ¬ F (G x y)
theorem Ck.keep {F : Nat → Prop} {w w' : World} {N bm : Nat} {G : Int → Int → Nat} {most last turns : Int} {S : St} {n : Nat} (h : Ck F w N bm G most last turns S n) (hb : Below w.heap.size w w') : Ck F w' N bm G most last turns S n :=
  { h with own := h.own.keep hb, map := h.map.keep hb, st := fun x y p q => ⟨(h.st x y p q).1, (h.st x y p q).2.keep hb⟩ }
theorem Ck.turn {F T : Nat → Prop} {w w' : World} {N bm : Nat} {G : Int → Int → Nat} {most last turns : Int} {S : St} {n : Nat} (h : Ck F w N bm G most last turns S n) (hm : Mut T w w') (hT : ∀ b, T b → F b) : Ck F w' N bm G most last turns S n :=
  { h with own := h.own.mut hm (fun q => h.fN (hT _ q)), map := h.map.mut hm (fun q => h.fB (hT _ q)), st := fun x y p q => ⟨(h.st x y p q).1, (h.st x y p q).2.mut hm (fun s => h.fG x y p q (hT _ s))⟩ }
theorem Ck.fresh {F T : Nat → Prop} {w : World} {N bm : Nat} {G : Int → Int → Nat} {most last turns : Int} {S : St} {n : Nat} (h : Ck F w N bm G most last turns S n) (hT : ∀ b, T b → F b ∨ w.heap.size ≤ b) : Ck T w N bm G most last turns S n :=
  { h with fN := fun q => (hT _ q).elim h.fN (fun s => by have := h.own.lt; omega), fB := fun q => (hT _ q).elim h.fB (fun s => by have := h.map.lt; omega), fG := fun x y p q s => (hT _ s).elim (h.fG x y p q) (fun t => by have := (h.st x y p q).2.lt; omega) }
theorem Ck.more {F : Nat → Prop} {w : World} {N bm : Nat} {G : Int → Int → Nat} {most last turns : Int} {S : St} {n n' : Nat} (h : Ck F w N bm G most last turns S n) (hn : n ≤ n') : Ck F w N bm G most last turns S n' := { h with map := h.map.more hn }
/-- One of the stamps is set. -/
theorem Ck.put {F : Nat → Prop} {w : World} {N bm : Nat} {G : Int → Int → Nat} {most last turns : Int} {S : St} {n : Nat} {x y : Int} {p : Int × Int} (h : Ck F w N bm G most last turns S n) (hS : S x y = some p) {k : Nat} (hk : k < 2) (v : Int) : Ck F (w.setCell ⟨G x y, k, none⟩ (.int .i64 v)) N bm G most last turns (upS S x y (some (if k = 0 then v else p.1, if k = 1 then v else p.2))) n := by
  have hm : Mut (fun b => b = G x y) w (w.setCell ⟨G x y, k, none⟩ (.int .i64 v)) := Mut.set (S := fun b => b = G x y) (Mut.refl _ _) (.inl rfl) _
  have hsome : ∀ a b q, upS S x y (some (if k = 0 then v else p.1, if k = 1 then v else p.2)) a b = some q → ∃ q', S a b = some q' := fun a b q e => by
    by_cases t : a = x ∧ b = y
    · exact ⟨p, by rw [t.1, t.2]; exact hS⟩
    · rw [upS_other t] at e; exact ⟨q, e⟩
  refine ⟨h.own.mut hm (fun q => (h.ne x y p hS).1 q.symm), ?_, fun a b q e => ?_, fun a b c d q r e1 e2 => ?_, fun a b q e => ?_, h.nb, h.fN, h.fB, fun a b q e => ?_⟩
  · have hvf : vf (upS S x y (some (if k = 0 then v else p.1, if k = 1 then v else p.2))) G = vf S G := by
      funext a b
      by_cases t : a = x ∧ b = y
      · obtain ⟨rfl, rfl⟩ := t
        rw [vf_some (upS_same _ _ _ _), vf_some hS]
      · unfold vf; rw [upS_other t]
    rw [hvf]
    exact h.map.mut hm (fun q => (h.ne x y p hS).2 q.symm)
  · by_cases t : a = x ∧ b = y
    · obtain ⟨rfl, rfl⟩ := t
      rw [upS_same] at e
      injection e with e
      subst e
      refine ⟨(h.st a b p hS).1, ?_⟩
      have ho := own_put' (k := k) (x := .int .i64 v) (h.st a b p hS).2 (by simpa using hk)
      match k, hk with
      | 0, _ => simpa using ho
      | 1, _ => simpa using ho
    · rw [upS_other t] at e
      refine ⟨(h.st a b q e).1, (h.st a b q e).2.mut hm (fun s => t (h.dis a b x y q p e hS s))⟩
  · obtain ⟨q', e1'⟩ := hsome a b q e1
    obtain ⟨r', e2'⟩ := hsome c d r e2
    exact h.dis a b c d q' r' e1' e2'
  · obtain ⟨q', e'⟩ := hsome a b q e
    exact h.ne a b q' e'
  · obtain ⟨q', e'⟩ := hsome a b q e
    exact h.fG a b q' e'
/-- A cell is forgotten. -/
theorem Ck.drop {F : Nat → Prop} {w w' : World} {N bm : Nat} {G : Int → Int → Nat} {most last turns : Int} {S : St} {n : Nat} {x y : Int} (h : Ck F w N bm G most last turns S n) (hM : MapF w' bm n (updV (vf S G) x y nilS)) (hm : Mut (fun k => k = bm) w w') : Ck F w' N bm G most last turns (upS S x y none) n := by
  have hsome : ∀ a b q, upS S x y none a b = some q → S a b = some q := fun a b q e => by
    by_cases t : a = x ∧ b = y
    · rw [t.1, t.2, upS_same] at e; cases e
    · rwa [upS_other t] at e
  refine ⟨h.own.mut hm h.nb, ?_, fun a b q e => ?_, fun a b c d q r e1 e2 => h.dis a b c d q r (hsome a b q e1) (hsome c d r e2), fun a b q e => h.ne a b q (hsome a b q e), h.nb, h.fN, h.fB, fun a b q e => h.fG a b q (hsome a b q e)⟩
  · have hvf : vf (upS S x y none) G = updV (vf S G) x y nilS := by
      funext a b
      by_cases t : a = x ∧ b = y
      · obtain ⟨rfl, rfl⟩ := t
        rw [vf_none (upS_same _ _ _ _), updV_same]
      · rw [updV_other t]; unfold vf; rw [upS_other t]
    rw [hvf]
    exact hM
  · have e' := hsome a b q e
    exact ⟨(h.st a b q e').1, (h.st a b q e').2.mut hm (fun s => (h.ne a b q e').2 s)⟩
def upG (G : Int → Int → Nat) (x y : Int) (g : Nat) : Int → Int → Nat := fun a b => if a = x ∧ b = y then g else G a b
/-- A cell has stamps from now on: noughts, in a new block. -/
theorem Ck.add {F : Nat → Prop} {w w1 w' : World} {N bm g : Nat} {G : Int → Int → Nat} {most last turns : Int} {S : St} {n : Nat} {x y : Int} (h : Ck F w N bm G most last turns S n) (hx : I64 x) (hy : I64 y) (hF : ∀ b, F b → b < w.heap.size) (hg : w.heap.size ≤ g) (hb : Below w.heap.size w w1) (ho : Own w1 g #[.int .i64 0, .int .i64 0]) (hM : MapF w' bm (n + 1) (updV (vf S G) x y (.pointer (some ⟨g, 0, none⟩)))) (hm : Mut (fun k => k = bm) w1 w') : Ck F w' N bm (upG G x y g) most last turns (upS S x y (some (0, 0))) (n + 1) := by
  have hgb : g ≠ bm := by have := h.map.lt; omega
  have hgN : g ≠ N := by have := h.own.lt; omega
  have h1 := h.keep hb
  have hG : ∀ a b, ¬ (a = x ∧ b = y) → upG G x y g a b = G a b := fun a b t => if_neg t
  have hG2 : upG G x y g x y = g := if_pos ⟨rfl, rfl⟩
  have hlt : ∀ a b q, S a b = some q → G a b ≠ g := fun a b q e s => by have := (h.st a b q e).2.lt; omega
  refine ⟨h1.own.mut hm h.nb, ?_, fun a b q e => ?_, fun a b c d q r e1 e2 e3 => ?_, fun a b q e => ?_, h.nb, h.fN, h.fB, fun a b q e => ?_⟩
  · have hvf : vf (upS S x y (some (0, 0))) (upG G x y g) = updV (vf S G) x y (.pointer (some ⟨g, 0, none⟩)) := by
      funext a b
      by_cases t : a = x ∧ b = y
      · obtain ⟨rfl, rfl⟩ := t
        rw [vf_some (upS_same _ _ _ _), updV_same, hG2]
      · rw [updV_other t]; unfold vf; rw [upS_other t, hG a b t]
    rw [hvf]
    exact hM
  · by_cases t : a = x ∧ b = y
    · obtain ⟨rfl, rfl⟩ := t
      rw [upS_same] at e
      injection e with e
      subst e
      rw [hG2]
      exact ⟨⟨hx, hy⟩, ho.mut hm hgb⟩
    · rw [upS_other t] at e
      rw [hG a b t]
      exact ⟨(h.st a b q e).1, (h1.st a b q e).2.mut hm (fun s => (h.ne a b q e).2 s)⟩
  · by_cases t : a = x ∧ b = y
    · by_cases t2 : c = x ∧ d = y
      · exact ⟨t.1.trans t2.1.symm, t.2.trans t2.2.symm⟩
      · rw [t.1, t.2, hG2, hG c d t2] at e3
        rw [upS_other t2] at e2
        exact absurd e3.symm (hlt c d r e2)
    · rw [upS_other t] at e1
      rw [hG a b t] at e3
      by_cases t2 : c = x ∧ d = y
      · rw [t2.1, t2.2, hG2] at e3
        exact absurd e3 (hlt a b q e1)
      · rw [upS_other t2] at e2
        rw [hG c d t2] at e3
        exact h.dis a b c d q r e1 e2 e3
  · by_cases t : a = x ∧ b = y
    · rw [t.1, t.2, hG2]; exact ⟨hgN, hgb⟩
    · rw [upS_other t] at e
      rw [hG a b t]
      exact h.ne a b q e
  · by_cases t : a = x ∧ b = y
    · rw [t.1, t.2, hG2]
      exact fun s => by have := hF g s; omega
    · rw [upS_other t] at e
      rw [hG a b t]
      exact h.fG a b q e
theorem Ck.new {F : Nat → Prop} {w : World} {N bm : Nat} {most : Int} (hO : Own w N #[.int .i64 most, .int .i64 0, .int .i64 0, .map (some bm)]) (hM : MapF w bm 0 (fun _ _ => nilS)) (hn : N ≠ bm) (h1 : ¬ F N) (h2 : ¬ F bm) : Ck F w N bm (fun _ _ => 0) most 0 0 (fun _ _ => none) 0 :=
  ⟨hO, hM, fun x y p e => (by cases e), fun x y a b p q e => (by cases e), fun x y p e => (by cases e), hn, h1, h2, fun x y p e => (by cases e)⟩
theorem zeroPtr (w : World) : (zeroValue 50).run Try.prog w = .ok nilS w := by kernel_rfl
end Go.Proofs.Ytmajbophgdimlaa
