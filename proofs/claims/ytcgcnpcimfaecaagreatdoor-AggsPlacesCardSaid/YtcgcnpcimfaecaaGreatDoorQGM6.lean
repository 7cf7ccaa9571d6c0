/- The contracts of aggs.Call at INDEX, MATCH and LOOKUP: of a rectangle that may be, a value and places in it. New memory alone is made. Plain facts of the places of a line: the first place that has an entry's value stands at the entry's, or ahead of it. -/
import Derived.Test.YtcgcnpcimfaecaaGreatDoorQGM5
import Derived.Test.YtcgcnpcimfaecaaGreatDoorQGX1
import Derived.Test.YtcgcnpcimfaecaaGreatDoorQGU3
namespace Go.Proofs.YtcgcnpcimfaecaaGreatDoor
open Go.RowKit
set_option linter.all false
theorem nm_INDEX : nmI ⟨#[73, 78, 68, 69, 88]⟩ = 13 := by decide
theorem nm_MATCH : nmI ⟨#[77, 65, 84, 67, 72]⟩ = 11 := by decide
theorem nm_LOOKUP : nmI ⟨#[76, 79, 79, 75, 85, 80]⟩ = 12 := by decide
/-- A single value. -/
def oneV (t n : Int) (s : ByteArray) (b : Bool) (c : Int) : Ag := ⟨false, t, n, s, b, c, 0, 0, 0, 0, none, 0, 0⟩
theorem onev_mn {t n : Int} {s : ByteArray} {b : Bool} {c : Int} (h : mayB t n s b c = true) : mnB (oneV t n s b c, []) = false := by
  show nosB (oneV t n s b c) = false
  show (false || !mayB t n s b c || !rz 0 0 0 0 || decide (0 < 0)) = false
  rw [h]; rfl
theorem onev_e {W : World} {t n : Int} {s : ByteArray} {b : Bool} {c : Int} (h : I64 n) : AgE W (oneV t n s b c, []) := ⟨⟨none, 0, rfl, Nat.le_refl _, fun h => absurd h (by simp)⟩, fun x hx => (by cases hx), h, by simp⟩
/-- A single whole number. -/
def oneW (k : Int) : Ag := oneV 1 (k * 10000) ⟨#[]⟩ false 0
theorem onew_may {k : Int} (h1 : 1 ≤ k) (h2 : k ≤ 2000000) : mayB 1 (k * 10000) ⟨#[]⟩ false 0 = true := by
  unfold mayB
  have h4 : k * 10000 ≠ -9223372036854775808 := by omega
  simp [h4]
theorem onew_num {k : Int} (h1 : 1 ≤ k) (h2 : k ≤ 2000000) : aN (oneW k) = k * 10000 := by
  show asNum 1 (k * 10000) ⟨#[]⟩ false 0 = _
  unfold asNum
  rw [if_pos ⟨onew_may h1 h2, by decide⟩, if_pos rfl]
theorem onew_code {k : Int} (h1 : 1 ≤ k) (h2 : k ≤ 2000000) : cdN (oneW k) = 0 := by
  have h3 : asCode 1 (k * 10000) ⟨#[]⟩ false 0 = 0 := by
    unfold asCode
    rw [if_pos ⟨onew_may h1 h2, by decide⟩]; rfl
  have hw : wholeOk (k * 10000) = true := by
    unfold wholeOk mayOk
    have h4 : k * 10000 ≠ -9223372036854775808 := by omega
    simp [h4]
  unfold cdN
  rw [onew_num h1 h2, if_pos hw]
  show (if asCode 1 (k * 10000) ⟨#[]⟩ false 0 = 0 then (0 : Int) else asCode 1 (k * 10000) ⟨#[]⟩ false 0) = 0
  rw [h3]; rfl
theorem onew_val {k : Int} (h1 : 1 ≤ k) (h2 : k ≤ 2000000) : aI (oneW k) = k := by
  unfold aI
  rw [onew_num h1 h2, Int.mul_tdiv_cancel _ (by decide)]
theorem onew_i64 {k : Int} (h1 : 1 ≤ k) (h2 : k ≤ 2000000) : I64 (k * 10000) := ⟨by omega, by omega⟩
theorem ff_sa {t n : Int} {s : ByteArray} {b : Bool} {c : Int} {A : Ag} (hA : A.many = true) (ht : ¬ t = 4) : firstF [oneV t n s b c, A] = none := by
  unfold firstF; simp [oneV, hA, ht]
theorem ff_saa {t n : Int} {s : ByteArray} {b : Bool} {c : Int} {A : Ag} (hA : A.many = true) (ht : ¬ t = 4) : firstF [oneV t n s b c, A, A] = none := by
  unfold firstF; simp [oneV, hA, ht]
theorem index_call (W : World) (v : Value) (A : Ag) (es : List En) (i j : Int) (x : En) (hmany : A.many = true) (hv : AV W v [A, oneW i, oneW j]) (hE : AgE W (A, es)) (hm : mnB (A, es) = false) (hS : OrdE es) (h1 : 0 ≤ A.r0) (h2 : A.r0 ≤ A.r2) (h3 : A.r2 ≤ 1048576) (h4 : 0 ≤ A.r1) (h5 : A.r1 ≤ A.r3) (h6 : A.r3 ≤ 1048576) (hi1 : 1 ≤ i) (hi2 : i ≤ A.r2 - A.r0 + 1) (hj1 : 1 ≤ j) (hj2 : j ≤ A.r3 - A.r1 + 1) (hx : atE es (A.r0 + i - 1) (A.r1 + j - 1) = x) (hsz : x.s.size ≤ 281474976710656) : Calls Tryz.prog 9 #[.string ⟨#[73, 78, 68, 69, 88]⟩, v, .int .i64 0] W fun e w' => e = .returned (.agg #[.int .i64 x.t, .int .i64 x.n, .string x.s, .bool x.b, .int .i64 x.c]) ∧ Below W.heap.size W w' := by
  have hiI := onew_i64 hi1 (show i ≤ 2000000 by omega)
  have hjI := onew_i64 hj1 (show j ≤ 2000000 by omega)
  have hE1 : ∀ q ∈ [(A, es), (oneW i, []), (oneW j, [])], AgE W q := fun q hq => by
    simp at hq
    rcases hq with h | h | h
    · subst h; exact hE
    · subst h; exact onev_e hiI
    · subst h; exact onev_e hjI
  have hni : nIx ⟨#[114, 110, 110]⟩ [A, oneW i, oneW j] = [oneW i, oneW j] := rfl
  have hmi : mnB (oneW i, []) = false := onev_mn (onew_may hi1 (by omega))
  have hmj : mnB (oneW j, []) = false := onev_mn (onew_may hj1 (by omega))
  refine c_an_p ⟨#[73, 78, 68, 69, 88]⟩ W v 0 [(A, es), (oneW i, []), (oneW j, [])] hv (show Hid _ from fun a ha => by
      simp at ha
      rcases ha with h | h | h
      · subst h; exact hE.n
      · subst h; exact hiI
      · subst h; exact hjI) (show 3 ≤ 1099511627776 by decide) hE1 (by rw [nm_INDEX]; decide) (by decide) (by decide)
    (by rw [nm_INDEX]; show takB (plI 13) (moI 13) [A.many, false, false] = true; rw [hmany]; rfl) (by simp only [List.any_cons, List.any_nil, hm, hmi, hmj]; rfl) (by unfold firstF; simp [oneW, oneV, hmany]) (by rw [nm_INDEX]; show firstN (nIx ⟨#[114, 110, 110]⟩ [A, oneW i, oneW j]) = 0; rw [hni]; show (if cdN (oneW i) = 0 then (if cdN (oneW j) = 0 then (0 : Int) else cdN (oneW j)) else cdN (oneW i)) = 0; rw [if_pos (onew_code hi1 (by omega)), if_pos (onew_code hj1 (by omega))]) (by rw [nm_INDEX]; rfl) (by rw [nm_INDEX]; decide) x.t x.n x.s x.b x.c ?_
  intro W2 up um uc hW hrow
  rw [nm_INDEX] at hrow ⊢
  have hv2 := View.keep hv hW
  obtain ⟨vq, vc, rfl, hcc, hf⟩ := hv2
  obtain ⟨ab, ao, rfl, hab, HC⟩ := hf (by simp)
  have HA : ∀ j, j < 11 → W2.cell? ⟨ab, ao + j, none⟩ = (Ag.cells A)[j]? := fun j hj => by have := HC 0 _ rfl j hj; simpa using this
  have hr : Row icell 1 2 W2 0 (.slice up um uc) [i, j] := by
    have h7 : (nIx ⟨#[114, 110, 110]⟩ [A, oneW i, oneW j]).map aI = [i, j] := by rw [hni, List.map_cons, List.map_cons, onew_val hi1 (by omega), onew_val hj1 (by omega)]; rfl
    rw [← h7]; exact hrow.out
  rcases Row.two icell_size hr with ⟨_, e⟩ | ⟨g, cap, e, _, hgl, hcap, _, hcl, _⟩
  · cases e
  · injection e with e1 e2 e3
    subst e1 e2 e3
    have hk0 : W2.cell? ⟨g, 0, none⟩ = some (.int .i64 i) := by have := hcl 0 i rfl 0 (by decide); simpa [icell] using this
    have hk1 : W2.cell? ⟨g, 0 + 1, none⟩ = some (.int .i64 j) := by have := hcl 1 j rfl 0 (by decide); simpa [icell] using this
    subst hx
    exact indexed_in W2 ab ao _ vc g 0 _ uc 0 A es i j hab (by simp) hcc HA hgl (by simp) hcap hk0 hk1 (show Hid _ from hE.keep hW) hS h1 h2 h3 h4 h5 h6 hi1 hi2 hj1 hj2 hsz
theorem match_fault (W : World) (v : Value) (A : Ag) (es : List En) (n : Int) (s : ByteArray) (b : Bool) (c : Int) (hmany : A.many = true) (hv : AV W v [oneV 4 n s b c, A]) (hE : AgE W (A, es)) (hm : mnB (A, es) = false) (hI : I64 n) (hms : mayB 4 n s b c = true) : Calls Tryz.prog 9 #[.string ⟨#[77, 65, 84, 67, 72]⟩, v, .int .i64 0] W fun e w' => e = .returned (.agg #[.int .i64 4, .int .i64 n, .string s, .bool b, .int .i64 c]) ∧ Below W.heap.size W w' := by
  have hE1 : ∀ q ∈ [(oneV 4 n s b c, []), (A, es)], AgE W q := fun q hq => by
    simp at hq
    rcases hq with h | h
    · subst h; exact onev_e hI
    · subst h; exact hE
  exact c_fault ⟨#[77, 65, 84, 67, 72]⟩ W v 0 [(oneV 4 n s b c, []), (A, es)] hv (show Hid _ from fun a ha => by
      simp at ha
      rcases ha with h | h
      · subst h; exact hI
      · subst h; exact hE.n) (show 2 ≤ 1099511627776 by decide) hE1 (by rw [nm_MATCH]; decide) (by decide) (by decide)
    (by rw [nm_MATCH]; show takB (plI 11) (moI 11) [false, A.many] = true; rw [hmany]; rfl) (by simp only [List.any_cons, List.any_nil, hm, onev_mn hms]; rfl) (oneV 4 n s b c) rfl
theorem match_call (W : World) (v : Value) (A : Ag) (es : List En) (t n : Int) (s : ByteArray) (b : Bool) (c : Int) (q : Nat) (hmany : A.many = true) (hv : AV W v [oneV t n s b c, A]) (hE : AgE W (A, es)) (hm : mnB (A, es) = false) (hI : I64 n) (hms : mayB t n s b c = true) (ht : ¬ t = 4) (h0 : 0 < es.length) (hL : Ln A.r0 A.r1 A.r2 A.r3 es) (h1 : 0 ≤ A.r0) (h2 : A.r0 ≤ A.r2) (h3 : A.r2 ≤ 1048576) (h4 : 0 ≤ A.r1) (h5 : A.r1 ≤ A.r3) (h6 : A.r3 ≤ 1048576) (h40 : (A.r2 - A.r0 + 1) * (A.r3 - A.r1 + 1) ≤ 549755813888) (hq : At1 A.r0 A.r1 A.r2 A.r3 es t n s b c q) : Calls Tryz.prog 9 #[.string ⟨#[77, 65, 84, 67, 72]⟩, v, .int .i64 0] W fun e w' => e = .returned (.agg #[.int .i64 1, .int .i64 (((q : Int) + 1) * 10000), .string ⟨#[]⟩, .bool false, .int .i64 0]) ∧ Below W.heap.size W w' := by
  have hE1 : ∀ q ∈ [(oneV t n s b c, []), (A, es)], AgE W q := fun q hq => by
    simp at hq
    rcases hq with h | h
    · subst h; exact onev_e hI
    · subst h; exact hE
  refine c_an_p ⟨#[77, 65, 84, 67, 72]⟩ W v 0 [(oneV t n s b c, []), (A, es)] hv (show Hid _ from fun a ha => by
      simp at ha
      rcases ha with h | h
      · subst h; exact hI
      · subst h; exact hE.n) (show 2 ≤ 1099511627776 by decide) hE1 (by rw [nm_MATCH]; decide) (by decide) (by decide)
    (by rw [nm_MATCH]; show takB (plI 11) (moI 11) [false, A.many] = true; rw [hmany]; rfl) (by simp only [List.any_cons, List.any_nil, hm, onev_mn hms]; rfl) (ff_sa hmany ht) (by rw [nm_MATCH]; rfl) (by rw [nm_MATCH]; rfl) (by rw [nm_MATCH]; decide) 1 (((q : Int) + 1) * 10000) ⟨#[]⟩ false 0 ?_
  intro W2 up um uc hW hrow
  rw [nm_MATCH]
  have hv2 := View.keep hv hW
  obtain ⟨vq, vc, rfl, hcc, hf⟩ := hv2
  obtain ⟨ab, ao, rfl, hab, HC⟩ := hf (by simp)
  have HB : ∀ j, j < 11 → W2.cell? ⟨ab, ao + j, none⟩ = (Ag.cells (oneV t n s b c))[j]? := fun j hj => by have := HC 0 _ rfl j hj; simpa using this
  have HA : ∀ j, j < 11 → W2.cell? ⟨ab, ao + 11 + j, none⟩ = (Ag.cells A)[j]? := fun j hj => by have := HC 1 A rfl j hj; simpa using this
  exact matched_hit W2 ab ao _ vc up um uc 0 (oneV t n s b c) A es q hab (by simp) hcc HB HA (show Hid _ from hE.keep hW) h0 hL h1 h2 h3 h4 h5 h6 h40 hq
theorem match_none (W : World) (v : Value) (A : Ag) (es : List En) (t n : Int) (s : ByteArray) (b : Bool) (c : Int) (hmany : A.many = true) (hv : AV W v [oneV t n s b c, A]) (hE : AgE W (A, es)) (hm : mnB (A, es) = false) (hI : I64 n) (hms : mayB t n s b c = true) (ht : ¬ t = 4) (h1 : 0 ≤ A.r0) (h2 : A.r0 ≤ A.r2) (h3 : A.r2 ≤ 1048576) (h4 : 0 ≤ A.r1) (h5 : A.r1 ≤ A.r3) (h6 : A.r3 ≤ 1048576) (hL : lineB A.r0 A.r1 A.r2 A.r3 = false) : Calls Tryz.prog 9 #[.string ⟨#[77, 65, 84, 67, 72]⟩, v, .int .i64 0] W fun e w' => e = .returned (.agg #[.int .i64 4, .int .i64 0, .string ⟨#[]⟩, .bool false, .int .i64 8]) ∧ Below W.heap.size W w' := by
  have hE1 : ∀ q ∈ [(oneV t n s b c, []), (A, es)], AgE W q := fun q hq => by
    simp at hq
    rcases hq with h | h
    · subst h; exact onev_e hI
    · subst h; exact hE
  refine c_an_p ⟨#[77, 65, 84, 67, 72]⟩ W v 0 [(oneV t n s b c, []), (A, es)] hv (show Hid _ from fun a ha => by
      simp at ha
      rcases ha with h | h
      · subst h; exact hI
      · subst h; exact hE.n) (show 2 ≤ 1099511627776 by decide) hE1 (by rw [nm_MATCH]; decide) (by decide) (by decide)
    (by rw [nm_MATCH]; show takB (plI 11) (moI 11) [false, A.many] = true; rw [hmany]; rfl) (by simp only [List.any_cons, List.any_nil, hm, onev_mn hms]; rfl) (ff_sa hmany ht) (by rw [nm_MATCH]; rfl) (by rw [nm_MATCH]; rfl) (by rw [nm_MATCH]; decide) 4 0 ⟨#[]⟩ false 8 ?_
  intro W2 up um uc hW hrow
  rw [nm_MATCH]
  have hv2 := View.keep hv hW
  obtain ⟨vq, vc, rfl, hcc, hf⟩ := hv2
  obtain ⟨ab, ao, rfl, hab, HC⟩ := hf (by simp)
  have HB : ∀ j, j < 11 → W2.cell? ⟨ab, ao + j, none⟩ = (Ag.cells (oneV t n s b c))[j]? := fun j hj => by have := HC 0 _ rfl j hj; simpa using this
  have HA : ∀ j, j < 11 → W2.cell? ⟨ab, ao + 11 + j, none⟩ = (Ag.cells A)[j]? := fun j hj => by have := HC 1 A rfl j hj; simpa using this
  exact matched_no W2 ab ao _ vc up um uc 0 (oneV t n s b c) A hab (by simp) hcc HB HA h1 h2 h3 h4 h5 h6 hL
theorem lookup_call (W : World) (v : Value) (A : Ag) (es : List En) (t n : Int) (s : ByteArray) (b : Bool) (c : Int) (q : Nat) (hmany : A.many = true) (hv : AV W v [oneV t n s b c, A, A]) (hE : AgE W (A, es)) (hm : mnB (A, es) = false) (hI : I64 n) (hms : mayB t n s b c = true) (ht : ¬ t = 4) (h0 : 0 < es.length) (hL : Ln A.r0 A.r1 A.r2 A.r3 es) (h1 : 0 ≤ A.r0) (h2 : A.r0 ≤ A.r2) (h3 : A.r2 ≤ 1048576) (h4 : 0 ≤ A.r1) (h5 : A.r1 ≤ A.r3) (h6 : A.r3 ≤ 1048576) (h40 : (A.r2 - A.r0 + 1) * (A.r3 - A.r1 + 1) ≤ 549755813888) (hsz : s.size ≤ 281474976710656) (hq : At1 A.r0 A.r1 A.r2 A.r3 es t n s b c q) : Calls Tryz.prog 9 #[.string ⟨#[76, 79, 79, 75, 85, 80]⟩, v, .int .i64 0] W fun e w' => e = .returned (.agg #[.int .i64 t, .int .i64 n, .string s, .bool b, .int .i64 c]) ∧ Below W.heap.size W w' := by
  have hE1 : ∀ q ∈ [(oneV t n s b c, []), (A, es), (A, es)], AgE W q := fun q hq => by
    simp at hq
    rcases hq with h | h
    · subst h; exact onev_e hI
    · subst h; exact hE
  have hx : (lnE A.r0 A.r1 A.r2 es q).t = t ∧ (lnE A.r0 A.r1 A.r2 es q).n = n ∧ (lnE A.r0 A.r1 A.r2 es q).s = s ∧ (lnE A.r0 A.r1 A.r2 es q).b = b ∧ (lnE A.r0 A.r1 A.r2 es q).c = c := by
    have h := hq.2.1
    unfold hitB smE sameB at h
    exact of_decide_eq_true h
  refine c_an_p ⟨#[76, 79, 79, 75, 85, 80]⟩ W v 0 [(oneV t n s b c, []), (A, es), (A, es)] hv (show Hid _ from fun a ha => by
      simp at ha
      rcases ha with h | h
      · subst h; exact hI
      · subst h; exact hE.n) (show 3 ≤ 1099511627776 by decide) hE1 (by rw [nm_LOOKUP]; decide) (by decide) (by decide)
    (by rw [nm_LOOKUP]; show takB (plI 12) (moI 12) [false, A.many, A.many] = true; rw [hmany]; rfl) (by simp only [List.any_cons, List.any_nil, hm, onev_mn hms]; rfl) (ff_saa hmany ht) (by rw [nm_LOOKUP]; rfl) (by rw [nm_LOOKUP]; rfl) (by rw [nm_LOOKUP]; decide) t n s b c ?_
  intro W2 up um uc hW hrow
  rw [nm_LOOKUP]
  have hv2 := View.keep hv hW
  obtain ⟨vq, vc, rfl, hcc, hf⟩ := hv2
  obtain ⟨ab, ao, rfl, hab, HC⟩ := hf (by simp)
  have HB : ∀ j, j < 11 → W2.cell? ⟨ab, ao + j, none⟩ = (Ag.cells (oneV t n s b c))[j]? := fun j hj => by have := HC 0 _ rfl j hj; simpa using this
  have HA : ∀ j, j < 11 → W2.cell? ⟨ab, ao + 11 + j, none⟩ = (Ag.cells A)[j]? := fun j hj => by have := HC 1 A rfl j hj; simpa using this
  have HD : ∀ j, j < 11 → W2.cell? ⟨ab, ao + 22 + j, none⟩ = (Ag.cells A)[j]? := fun j hj => by have := HC 2 A rfl j hj; simpa using this
  have hz := looked_hit W2 ab ao _ vc up um uc 0 (oneV t n s b c) A es q hab (by simp) hcc HB HA HD (show Hid _ from hE.keep hW) h0 hL h1 h2 h3 h4 h5 h6 h40 hq (show Hid _ from by rw [hx.2.2.1]; exact hsz)
  rw [hx.1, hx.2.1, hx.2.2.1, hx.2.2.2.1, hx.2.2.2.2] at hz
  exact hz
end Go.Proofs.YtcgcnpcimfaecaaGreatDoor
namespace Go.Proofs.YtcgcnpcimfaecaaGreatDoor
set_option linter.all false
theorem first_of {P : Nat → Bool} : ∀ (m : Nat), P m = true → ∃ q, q ≤ m ∧ P q = true ∧ ∀ p, p < q → P p = false := by
  intro m
  induction m using Nat.strongRecOn with
  | ind m ih =>
    intro h
    by_cases e : ∃ p, p < m ∧ P p = true
    · obtain ⟨p, hp, hP⟩ := e
      obtain ⟨q, h1, h2, h3⟩ := ih p hp hP
      exact ⟨q, by omega, h2, h3⟩
    · refine ⟨m, Nat.le_refl _, h, fun p hp => ?_⟩
      cases hP : P p
      · rfl
      · exact absurd ⟨p, hp, hP⟩ e
theorem ln_at {r0 r1 r2 r3 : Int} {es : List En} {k : Nat} {x : En} (L : Ln r0 r1 r2 r3 es) (hx : es[k]? = some x) : lnE r0 r1 r2 es (plE r0 r1 x) = x := by
  have h := (L.cell (List.mem_of_getElem? hx) (plE r0 r1 x)).2 rfl
  exact atE_at L.ord hx h.1 h.2
theorem pl_in {r0 r1 r2 r3 : Int} {es : List En} {x : En} (L : Ln r0 r1 r2 r3 es) (hx : x ∈ es) : 0 ≤ plE r0 r1 x ∧ plE r0 r1 x < (r2 - r0 + 1) * (r3 - r1 + 1) := by
  have h := L.inr x hx
  have hl := L.line
  unfold lineB at hl
  unfold plE
  simp only [Bool.or_eq_true, decide_eq_true_eq] at hl
  refine ⟨by omega, ?_⟩
  rcases hl with hl | hl
  · have e : r2 - r0 + 1 = 1 := by omega
    rw [e, Int.one_mul]; omega
  · have e : r3 - r1 + 1 = 1 := by omega
    rw [e, Int.mul_one]; omega
theorem hit_at {r0 r1 r2 r3 : Int} {es : List En} {k : Nat} {y : En} (L : Ln r0 r1 r2 r3 es) (hy : es[k]? = some y) (t n : Int) (s : ByteArray) (b : Bool) (c : Int) (hs : y.t = t ∧ y.n = n ∧ y.s = s ∧ y.b = b ∧ y.c = c) : hitB r0 r1 r2 es t n s b c (plE r0 r1 y).toNat = true := by
  have h := (pl_in L (List.mem_of_getElem? hy)).1
  have e : ((plE r0 r1 y).toNat : Int) = plE r0 r1 y := Int.toNat_of_nonneg h
  unfold hitB
  rw [e, ln_at L hy]
  unfold smE sameB
  exact decide_eq_true hs
theorem at1_of {r0 r1 r2 r3 : Int} {es : List En} {k : Nat} {x : En} (L : Ln r0 r1 r2 r3 es) (hx : es[k]? = some x) : ∃ q : Nat, At1 r0 r1 r2 r3 es x.t x.n x.s x.b x.c q ∧ (q : Int) ≤ plE r0 r1 x := by
  have hb := pl_in L (List.mem_of_getElem? hx)
  have e : ((plE r0 r1 x).toNat : Int) = plE r0 r1 x := Int.toNat_of_nonneg hb.1
  obtain ⟨q, h1, h2, h3⟩ := first_of (P := hitB r0 r1 r2 es x.t x.n x.s x.b x.c) (plE r0 r1 x).toNat (hit_at L hx _ _ _ _ _ ⟨rfl, rfl, rfl, rfl, rfl⟩)
  exact ⟨q, ⟨by omega, h2, h3⟩, by omega⟩
theorem at1_ahead {r0 r1 r2 r3 : Int} {es : List En} {k f : Nat} {x y : En} {q : Nat} (L : Ln r0 r1 r2 r3 es) (hx : es[k]? = some x) (hy : es[f]? = some y) (hf : f < k) (hs : y.t = x.t ∧ y.n = x.n ∧ y.s = x.s ∧ y.b = x.b ∧ y.c = x.c) (hq : At1 r0 r1 r2 r3 es x.t x.n x.s x.b x.c q) : (q : Int) < plE r0 r1 x := by
  have h1 := hit_at L hy _ _ _ _ _ hs
  have hb := (pl_in L (List.mem_of_getElem? hy)).1
  have hm := L.mono hf hy hx
  have h2 : ¬ (plE r0 r1 y).toNat < q := fun h => by rw [hq.2.2 _ h] at h1; cases h1
  omega
theorem at1_just {r0 r1 r2 r3 : Int} {es : List En} {k : Nat} {x : En} {q : Nat} (L : Ln r0 r1 r2 r3 es) (hx : es[k]? = some x) (hno : ∀ f y, f < k → es[f]? = some y → ¬ (y.t = x.t ∧ y.n = x.n ∧ y.s = x.s ∧ y.b = x.b ∧ y.c = x.c)) (ht : ¬ x.t = 0) (hq : At1 r0 r1 r2 r3 es x.t x.n x.s x.b x.c q) (hle : (q : Int) ≤ plE r0 r1 x) : (q : Int) = plE r0 r1 x := by
  by_cases e : (q : Int) = plE r0 r1 x
  · exact e
  have h := hq.2.1
  unfold hitB smE sameB at h
  have h := of_decide_eq_true h
  by_cases hy : ∃ y ∈ es, plE r0 r1 y = (q : Int)
  · obtain ⟨y, hy, e2⟩ := hy
    obtain ⟨f, hf⟩ := List.getElem?_of_mem hy
    have e3 := ln_at L hf
    rw [e2] at e3
    rw [e3] at h
    by_cases hfk : f < k
    · exact absurd h (hno f y hfk hf)
    · by_cases e4 : k = f
      · subst e4
        rw [hx] at hf
        cases hf
        exact absurd e2.symm e
      · have := L.mono (show k < f by omega) hx hf
        omega
  · have e3 := ln_no (i := (q : Int)) L (fun y h1 h2 => hy ⟨y, h1, h2⟩)
    rw [e3] at h
    exact absurd h.1.symm ht
end Go.Proofs.YtcgcnpcimfaecaaGreatDoor
