/- The contracts of targets.add and remove at a reference with Many. -/
import Derived.Test.YtgojnijpjfdocaaGreatET
import Derived.Test.YtgojnijpjfdocaaGreatCP
namespace Go.Proofs.YtgojnijpjfdocaaGreat
open Go.RowKit Go.Shelf
set_option linter.all false
set_option maxRecDepth 100000 in
theorem tadd_many (w : World) (bc NB : Nat) (B : Nat → Option TagD) (G : Int → Int → Rf → Prop) (n m : Nat) (p : Pr) (h : To w bc NB B G n m) (hp : mayP p = true) (hm : m + 1 ≤ 4000000000000) : Calls Tryz.prog 28 #[.agg #[.map (some bc), .pointer (some ⟨NB, 0, none⟩)], .agg #[.bool true, .int .i64 p.t, .int .i64 p.l, .int .i64 p.b, .int .i64 p.q], .agg #[.int .i64 p.r, .int .i64 p.c]] w fun e w' => e = .returned (.tuple #[]) ∧ ToOut w bc NB B (addG G p.r p.c ⟨true, p.t, p.l, p.b, p.q⟩) n (m + 1) w' := by
  have HA : Hid (∀ W, Below w.heap.size w W → Calls Tryz.prog 50 #[.pointer (some ⟨NB, 0, none⟩), .agg #[.int .i64 p.t, .int .i64 p.l, .int .i64 p.b, .int .i64 p.q], .agg #[.int .i64 p.r, .int .i64 p.c]] W fun e w' => ∃ ok, e = .returned (.bool ok) ∧ ToOut w bc NB B (addG G p.r p.c ⟨true, p.t, p.l, p.b, p.q⟩) n (m + 1) w') := (show _ from fun W hb => by
    obtain ⟨D, P, h4, h5, h6⟩ := h.bands
    refine (badd_any W NB D P m p (h4.keep hb) hm).mono ?_
    rintro e w' ⟨rfl, hq⟩
    exact ⟨_, rfl, to_bands h (Nat.le_succ _) h5 (hq.back hb) (fun x => by
      rw [mem_addR, h6]
      unfold addG
      constructor
      · rintro (q | ⟨rfl, _⟩)
        · exact .inl q
        · exact .inr ⟨rfl, rfl, rfl⟩
      · rintro (q | ⟨q1, q2, q3⟩)
        · exact .inl q
        · obtain ⟨r, c, t, l, b, q⟩ := x
          obtain ⟨r', c', t', l', b', q'⟩ := p
          simp at q1 q2 q3
          obtain ⟨rfl, rfl⟩ := And.intro q1 q2
          obtain ⟨rfl, rfl, rfl, rfl⟩ := q3
          exact .inr ⟨rfl, hp⟩) (fun r c x y => by unfold addG; simp)⟩)
  clear h
  go_enter Tryz.func28, Tryz.ntmps28
  go_wp2_with (go_at_call 50; refine (HA.out _ (by with_reducible (repeat' first | assumption | exact Below.refl _ _ | refine Below.drew ?_ | refine bdrewN ?_ _ | refine Below.setCell ?_ (by first | exact Nat.le_refl _ | (simp; done) | (simp; omega) | omega) _ | refine Below.alloc ?_ (by first | exact Nat.le_refl _ | (simp; done) | (simp; omega) | omega) _))).mono ?_; rintro e wa ⟨ok, rfl, hq⟩; have HQ : Hid (ToOut w bc NB B (addG G p.r p.c ⟨true, p.t, p.l, p.b, p.q⟩) n (m + 1) wa) := hq; clear hq)
  refine bodyPost_ret (results_none rfl _ _ _) rfl ?_
  exact ⟨rfl, HQ.out⟩
set_option maxRecDepth 100000 in
theorem trem_many (w : World) (bc NB : Nat) (B : Nat → Option TagD) (G : Int → Int → Rf → Prop) (n m : Nat) (p : Pr) (h : To w bc NB B G n m) (hm : m ≤ 4000000000000) : Calls Tryz.prog 26 #[.agg #[.map (some bc), .pointer (some ⟨NB, 0, none⟩)], .agg #[.bool true, .int .i64 p.t, .int .i64 p.l, .int .i64 p.b, .int .i64 p.q], .agg #[.int .i64 p.r, .int .i64 p.c]] w fun e w' => e = .returned (.tuple #[]) ∧ ToOut w bc NB B (remG G p.r p.c ⟨true, p.t, p.l, p.b, p.q⟩) n m w' := by
  have HA : Hid (∀ W, Below w.heap.size w W → Calls Tryz.prog 41 #[.pointer (some ⟨NB, 0, none⟩), .agg #[.int .i64 p.t, .int .i64 p.l, .int .i64 p.b, .int .i64 p.q], .agg #[.int .i64 p.r, .int .i64 p.c]] W fun e w' => ∃ ok, e = .returned (.bool ok) ∧ ToOut w bc NB B (remG G p.r p.c ⟨true, p.t, p.l, p.b, p.q⟩) n m w') := (show _ from fun W hb => by
    obtain ⟨D, P, h4, h5, h6⟩ := h.bands
    refine (brem_any W NB D P m p (h4.keep hb) hm).mono ?_
    rintro e w' ⟨rfl, hq⟩
    exact ⟨_, rfl, to_bands h (Nat.le_refl _) h5 (hq.back hb) (fun x => by
      rw [mem_remR, h6]
      unfold remG
      constructor
      · rintro ⟨q1, q2⟩
        refine ⟨q1, fun q => q2 ?_⟩
        obtain ⟨r, c, t, l, b, q⟩ := x
        obtain ⟨r', c', t', l', b', q'⟩ := p
        simp_all
      · rintro ⟨q1, q2⟩
        exact ⟨q1, fun q => q2 (by subst q; exact ⟨rfl, rfl, rfl⟩)⟩) (fun r c x y => by unfold remG; simp)⟩)
  clear h
  go_enter Tryz.func26, Tryz.ntmps26
  go_wp2_with (go_at_call 41; refine (HA.out _ (by with_reducible (repeat' first | assumption | exact Below.refl _ _ | refine Below.drew ?_ | refine bdrewN ?_ _ | refine Below.setCell ?_ (by first | exact Nat.le_refl _ | (simp; done) | (simp; omega) | omega) _ | refine Below.alloc ?_ (by first | exact Nat.le_refl _ | (simp; done) | (simp; omega) | omega) _))).mono ?_; rintro e wa ⟨ok, rfl, hq⟩; have HQ : Hid (ToOut w bc NB B (remG G p.r p.c ⟨true, p.t, p.l, p.b, p.q⟩) n m wa) := hq; clear hq)
  refine bodyPost_ret (results_none rfl _ _ _) rfl ?_
  exact ⟨rfl, HQ.out⟩
end Go.Proofs.YtgojnijpjfdocaaGreat
