/- Rows of operations on pairs; what they make. No function's text is walked here. · The contracts of targets.add and remove at a reference with Many. · A cell put into, taken out of a list of cells in order. No function's text is walked here. -/
import Derived.Test.YtcjanaldjokllaaGreatQCOCLCV
import Derived.Test.YtcjanaldjokllaaGreatQCRCB
import Derived.Test.YtcjanaldjokllaaGreatQERBBcET
import Derived.Test.YtcjanaldjokllaaGreatQBGfEOEM
import Derived.Test.YtcjanaldjokllaaGreatQBPBOBBs
namespace Go.Proofs.YtcjanaldjokllaaGreat
open Go.RowKit
set_option linter.all false
/-- An operation of a script. -/
structure Op7 where
  kd : Int
  t : Int
  l : Int
  b : Int
  q : Int
  r : Int
  c : Int
def Op7.cells (o : Op7) : Array Value := #[.int .i64 o.kd, .int .i64 o.t, .int .i64 o.l, .int .i64 o.b, .int .i64 o.q, .int .i64 o.r, .int .i64 o.c]
structure Op7.ok (o : Op7) : Prop where
  kd : I64 o.kd
  t : I64 o.t
  l : I64 o.l
  b : I64 o.b
  q : I64 o.q
  r : I64 o.r
  c : I64 o.c
def Op7.pr (o : Op7) : Pr := ⟨o.r, o.c, o.t, o.l, o.b, o.q⟩
def mayP (p : Pr) : Bool := mayR p.t p.l p.b p.q && mayC p.r p.c
theorem has_mem {P : List Pr} {p : Pr} : hasF (fP p) P = true ↔ p ∈ P := by
  unfold hasF
  rw [List.any_eq_true]
  constructor
  · rintro ⟨x, hx, h0⟩
    rw [(cmpP_zero x p).1 (of_decide_eq_true h0)] at hx
    exact hx
  · intro h
    exact ⟨p, h, decide_eq_true ((cmpP_zero p p).2 rfl)⟩
theorem addB_is {P : List Pr} {p : Pr} : addB P p = true ↔ (mayP p = true ∧ p ∉ P) := by
  unfold addB mayP
  rw [← has_mem]
  cases mayR p.t p.l p.b p.q <;> cases mayC p.r p.c <;> cases hasF (fP p) P <;> simp
theorem mem_loP {P : List Pr} {p x : Pr} (h : x ∈ P) (hn : x ≠ p) : x ∈ loF (fP p) P ∨ x ∈ hiF (fP p) P := by
  have hz : ¬ cmpP x p = 0 := fun q => hn ((cmpP_zero x p).1 q)
  by_cases q : cmpP x p < 0
  · exact .inl (List.mem_filter.2 ⟨h, decide_eq_true q⟩)
  · exact .inr (List.mem_filter.2 ⟨h, decide_eq_true (by unfold fP; omega)⟩)
theorem mem_addR {P : List Pr} {p x : Pr} : x ∈ addR P p ↔ (x ∈ P ∨ (x = p ∧ mayP p = true)) := by
  unfold addR
  by_cases h : addB P p = true
  · rw [if_pos h]
    have h2 := addB_is.1 h
    constructor
    · intro hx
      rcases mem_addP hx with q | q
      · exact .inr ⟨q, h2.1⟩
      · exact .inl q
    · rintro (q | ⟨q, _⟩)
      · by_cases e : x = p
        · subst e; exact absurd q h2.2
        · unfold addP
          rcases mem_loP q e with s | s
          · exact List.mem_append_left _ s
          · exact List.mem_append_right _ (List.mem_cons_of_mem _ s)
      · subst q; unfold addP; simp
  · rw [if_neg h]
    constructor
    · exact .inl
    · rintro (q | ⟨q, q2⟩)
      · exact q
      · subst q
        by_cases e : x ∈ P
        · exact e
        · exact absurd (addB_is.2 ⟨q2, e⟩) h
theorem mem_remR {P : List Pr} {p x : Pr} : x ∈ remR P p ↔ (x ∈ P ∧ x ≠ p) := by
  unfold remR remB
  by_cases h : hasF (fP p) P = true
  · rw [if_pos h]
    constructor
    · intro hx
      refine ⟨mem_dropP hx, fun e => ?_⟩
      subst e
      unfold dropP at hx
      rcases List.mem_append.1 hx with s | s
      · have h1 : cmpP x x < 0 := of_decide_eq_true (List.mem_filter.1 s).2
        exact cmpP_irr x h1
      · have h1 : 0 < cmpP x x := of_decide_eq_true (List.mem_filter.1 s).2
        have := (cmpP_zero x x).2 rfl
        omega
    · rintro ⟨q, e⟩
      unfold dropP
      rcases mem_loP q e with s | s
      · exact List.mem_append_left _ s
      · exact List.mem_append_right _ s
  · rw [if_neg h]
    constructor
    · intro hx
      exact ⟨hx, fun e => by subst e; exact h (has_mem.2 hx)⟩
    · exact fun q => q.1
end Go.Proofs.YtcjanaldjokllaaGreat
namespace Go.Proofs.YtcjanaldjokllaaGreat
open Go.RowKit Go.Shelf
set_option linter.all false
set_option maxRecDepth 100000 in
theorem tadd_many (w : World) (bc NB : Nat) (B : Nat → Option TagD) (G : Int → Int → Rf → Prop) (n m : Nat) (p : Pr) (h : To w bc NB B G n m) (hp : mayP p = true) (hm : m + 1 ≤ 4000000000000) : Calls Tryz.prog 25 #[.agg #[.map (some bc), .pointer (some ⟨NB, 0, none⟩)], .agg #[.bool true, .int .i64 p.t, .int .i64 p.l, .int .i64 p.b, .int .i64 p.q], .agg #[.int .i64 p.r, .int .i64 p.c]] w fun e w' => e = .returned (.tuple #[]) ∧ ToOut w bc NB B (addG G p.r p.c ⟨true, p.t, p.l, p.b, p.q⟩) n (m + 1) w' := by
  have HA : Hid (∀ W, Below w.heap.size w W → Calls Tryz.prog 46 #[.pointer (some ⟨NB, 0, none⟩), .agg #[.int .i64 p.t, .int .i64 p.l, .int .i64 p.b, .int .i64 p.q], .agg #[.int .i64 p.r, .int .i64 p.c]] W fun e w' => ∃ ok, e = .returned (.bool ok) ∧ ToOut w bc NB B (addG G p.r p.c ⟨true, p.t, p.l, p.b, p.q⟩) n (m + 1) w') := (show _ from fun W hb => by
    obtain ⟨D, P, h4, h5, h6⟩ := h.bands
    refine (badd_any W NB D P m p (h4.keep hb) hm).mono ?_
    rintro e w' ⟨rfl, hq⟩
    exact ⟨_, rfl, to_bands h (Nat.le_succ _) h5 (hq.back hb) (fun x => by
      rw [mem_addR, h6]
      unfold addG
      constructor
      · rintro (q | ⟨rfl, _⟩)
        · exact .inl q
        · exact .inr ⟨rfl, rfl, rfl⟩
      · rintro (q | ⟨q1, q2, q3⟩)
        · exact .inl q
        · obtain ⟨r, c, t, l, b, q⟩ := x
          obtain ⟨r', c', t', l', b', q'⟩ := p
          simp at q1 q2 q3
          obtain ⟨rfl, rfl⟩ := And.intro q1 q2
          obtain ⟨rfl, rfl, rfl, rfl⟩ := q3
          exact .inr ⟨rfl, hp⟩) (fun r c x y => by unfold addG; simp)⟩)
  clear h
  go_enter Tryz.func25, Tryz.ntmps25
  go_wp2_with (go_at_call 46; refine (HA.out _ zqb).mono ?_; rintro e wa ⟨ok, rfl, hq⟩; have HQ : Hid (ToOut w bc NB B (addG G p.r p.c ⟨true, p.t, p.l, p.b, p.q⟩) n (m + 1) wa) := hq; clear hq)
  refine bodyPost_ret (results_none rfl _ _ _) rfl ?_
  exact ⟨rfl, HQ.out⟩
set_option maxRecDepth 100000 in
theorem trem_many (w : World) (bc NB : Nat) (B : Nat → Option TagD) (G : Int → Int → Rf → Prop) (n m : Nat) (p : Pr) (h : To w bc NB B G n m) (hm : m ≤ 4000000000000) : Calls Tryz.prog 23 #[.agg #[.map (some bc), .pointer (some ⟨NB, 0, none⟩)], .agg #[.bool true, .int .i64 p.t, .int .i64 p.l, .int .i64 p.b, .int .i64 p.q], .agg #[.int .i64 p.r, .int .i64 p.c]] w fun e w' => e = .returned (.tuple #[]) ∧ ToOut w bc NB B (remG G p.r p.c ⟨true, p.t, p.l, p.b, p.q⟩) n m w' := by
  have HA : Hid (∀ W, Below w.heap.size w W → Calls Tryz.prog 37 #[.pointer (some ⟨NB, 0, none⟩), .agg #[.int .i64 p.t, .int .i64 p.l, .int .i64 p.b, .int .i64 p.q], .agg #[.int .i64 p.r, .int .i64 p.c]] W fun e w' => ∃ ok, e = .returned (.bool ok) ∧ ToOut w bc NB B (remG G p.r p.c ⟨true, p.t, p.l, p.b, p.q⟩) n m w') := (show _ from fun W hb => by
    obtain ⟨D, P, h4, h5, h6⟩ := h.bands
    refine (brem_any W NB D P m p (h4.keep hb) hm).mono ?_
    rintro e w' ⟨rfl, hq⟩
    exact ⟨_, rfl, to_bands h (Nat.le_refl _) h5 (hq.back hb) (fun x => by
      rw [mem_remR, h6]
      unfold remG
      constructor
      · rintro ⟨q1, q2⟩
        refine ⟨q1, fun q => q2 ?_⟩
        obtain ⟨r, c, t, l, b, q⟩ := x
        obtain ⟨r', c', t', l', b', q'⟩ := p
        simp_all
      · rintro ⟨q1, q2⟩
        exact ⟨q1, fun q => q2 (by subst q; exact ⟨rfl, rfl, rfl⟩)⟩) (fun r c x y => by unfold remG; simp)⟩)
  clear h
  go_enter Tryz.func23, Tryz.ntmps23
  go_wp2_with (go_at_call 37; refine (HA.out _ zqb).mono ?_; rintro e wa ⟨ok, rfl, hq⟩; have HQ : Hid (ToOut w bc NB B (remG G p.r p.c ⟨true, p.t, p.l, p.b, p.q⟩) n m wa) := hq; clear hq)
  refine bodyPost_ret (results_none rfl _ _ _) rfl ?_
  exact ⟨rfl, HQ.out⟩
end Go.Proofs.YtcjanaldjokllaaGreat
namespace Go.Proofs.YtcjanaldjokllaaGreat
open Go.RowKit
set_option linter.all false
def fK (z u : Cl) : Int := cmpK u z
abbrev SrtK (L : List Cl) : Prop := L.Pairwise (fun a b => cmpK a b < 0)
theorem cmpK_neg (x y : Cl) : cmpK x y < 0 ↔ (x.r < y.r ∨ (x.r = y.r ∧ x.c < y.c)) := cmpC_neg _ _ _ _
theorem cmpK_pos (x y : Cl) : 0 < cmpK x y ↔ cmpK y x < 0 := by
  have h1 := cmpK_neg x y
  have h2 := cmpK_neg y x
  have h3 : cmpK x y = 0 ↔ (x.r = y.r ∧ x.c = y.c) := cmpC_zero _ _ _ _
  have h4 : cmpK y x = 0 ↔ (y.r = x.r ∧ y.c = x.c) := cmpC_zero _ _ _ _
  omega
theorem cmpK_tr {x y z : Cl} (h1 : cmpK x y < 0) (h2 : cmpK y z < 0) : cmpK x z < 0 := by rw [cmpK_neg] at *; omega
theorem SrtK.mono {L : List Cl} (h : SrtK L) (z : Cl) : MonoF (fK z) L := h.imp (fun {a b} hab hb => by
  have hb' : cmpK b z ≤ 0 := hb
  show cmpK a z < 0
  by_cases e : cmpK b z < 0
  · exact cmpK_tr hab e
  · have e0 : cmpK b z = 0 := by omega
    rw [cmpK_zero] at e0
    subst e0
    exact hab)
theorem has_K {L : List Cl} {z : Cl} : hasF (fK z) L = true ↔ z ∈ L := by
  unfold hasF
  rw [List.any_eq_true]
  constructor
  · rintro ⟨x, h1, h2⟩
    have : cmpK x z = 0 := of_decide_eq_true h2
    rw [cmpK_zero] at this
    subst this
    exact h1
  · intro h
    exact ⟨z, h, decide_eq_true ((cmpK_zero z z).2 rfl)⟩
def insK (L : List Cl) (z : Cl) : List Cl := L.take (idxF (fK z) L) ++ z :: L.drop (idxF (fK z) L)
def delK (L : List Cl) (z : Cl) : List Cl := L.take (idxF (fK z) L) ++ L.drop (idxF (fK z) L + 1)
theorem insK_mem {L : List Cl} {z u : Cl} : u ∈ insK L z ↔ (u ∈ L ∨ u = z) := by
  unfold insK
  conv => rhs; rw [← List.take_append_drop (idxF (fK z) L) L]
  simp only [List.mem_append, List.mem_cons]
  constructor
  · rintro (h | h | h)
    · exact .inl (.inl h)
    · exact .inr h
    · exact .inl (.inr h)
  · rintro ((h | h) | h)
    · exact .inl h
    · exact .inr (.inr h)
    · exact .inr (.inl h)
theorem insK_srt {L : List Cl} (h : SrtK L) {z : Cl} (hn : z ∉ L) : SrtK (insK L z) := by
  unfold insK
  have h1 := h.mono z
  have hh : hasF (fK z) L = false := by
    cases e : hasF (fK z) L
    · rfl
    · exact absurd (has_K.1 e) hn
  rw [take_idx h1, drop_idx h1, has_no hh]
  refine List.pairwise_append.2 ⟨List.Pairwise.filter _ h, List.pairwise_cons.2 ⟨fun y hy => ?_, List.Pairwise.filter _ h⟩, fun x hx y hy => ?_⟩
  · have := (List.mem_filter.1 hy).2
    have h2 : 0 < cmpK y z := of_decide_eq_true this
    exact (cmpK_pos y z).1 h2
  · have h2 : cmpK x z < 0 := of_decide_eq_true (List.mem_filter.1 hx).2
    rcases List.mem_cons.1 hy with rfl | hy
    · exact h2
    · have h3 : 0 < cmpK y z := of_decide_eq_true (List.mem_filter.1 hy).2
      exact cmpK_tr h2 ((cmpK_pos y z).1 h3)
theorem insK_pos (L : List Cl) (z : Cl) : insK L z ≠ [] := by unfold insK; simp
theorem insK_len (L : List Cl) (z : Cl) : (insK L z).length = L.length + 1 := by
  unfold insK
  have := idxF_le (f := fK z) L
  simp
  omega
theorem delK_is {L : List Cl} (h : SrtK L) {z : Cl} (hm : z ∈ L) : delK L z = loF (fK z) L ++ hiF (fK z) L := drop_has (h.mono z) (has_K.2 hm)
theorem delK_mem {L : List Cl} (h : SrtK L) {z u : Cl} (hm : z ∈ L) : u ∈ delK L z ↔ (u ∈ L ∧ u ≠ z) := by
  rw [delK_is h hm, List.mem_append]
  unfold loF hiF
  simp only [List.mem_filter, decide_eq_true_eq]
  have hz : u = z ↔ fK z u = 0 := (cmpK_zero u z).symm
  constructor
  · rintro (⟨q1, q2⟩ | ⟨q1, q2⟩)
    · exact ⟨q1, fun e => by rw [hz] at e; omega⟩
    · exact ⟨q1, fun e => by rw [hz] at e; omega⟩
  · rintro ⟨q1, q2⟩
    have : ¬ fK z u = 0 := fun e => q2 (hz.2 e)
    by_cases e : fK z u < 0
    · exact .inl ⟨q1, e⟩
    · exact .inr ⟨q1, by omega⟩
theorem delK_srt {L : List Cl} (h : SrtK L) (z : Cl) : SrtK (delK L z) := by
  unfold delK
  refine h.sublist ?_
  conv => rhs; rw [← List.take_append_drop (idxF (fK z) L) L]
  refine List.Sublist.append (List.Sublist.refl _) ?_
  rw [← List.drop_drop]
  exact List.drop_sublist _ _
theorem delK_len {L : List Cl} (z : Cl) : (delK L z).length ≤ L.length := by
  unfold delK
  simp
  omega
end Go.Proofs.YtcjanaldjokllaaGreat
