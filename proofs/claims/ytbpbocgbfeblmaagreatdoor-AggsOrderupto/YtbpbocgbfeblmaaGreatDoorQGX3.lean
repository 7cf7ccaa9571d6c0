/- Plain facts of a rectangle's entries: as many as it has cells at most; those that are Blank and those that are not are all. No function. The contracts of aggs.Call at SUM, MIN, MAX, AVG, MEDIAN, COUNT, COUNTA, of any one to sixteen arguments that may be and bear no fault. New memory alone is made. -/
import Derived.Test.YtbpbocgbfeblmaaGreatDoorQGX1
import Derived.Test.YtbpbocgbfeblmaaGreatDoorQGP3
import Derived.Test.YtbpbocgbfeblmaaGreatDoorQGC6
namespace Go.Proofs.YtbpbocgbfeblmaaGreatDoor
open Go.RowKit
set_option linter.all false
theorem ent_parts {r0 r1 r2 r3 : Int} {es : List En} {j : Nat} {x : En} (h : entA r0 r1 r2 r3 es j x = true) : (r0 ≤ x.r ∧ x.r ≤ r2 ∧ r1 ≤ x.k ∧ x.k ≤ r3) ∧ mayB x.t x.n x.s x.b x.c = true := by
  unfold entA at h
  simp only [Bool.and_eq_true] at h
  exact ⟨by simpa [Ad.inB] using h.1.1, h.1.2⟩
theorem ent_next {r0 r1 r2 r3 : Int} {es : List En} {j : Nat} {p x : En} (h : entA r0 r1 r2 r3 es (j + 1) x = true) (hp : es[j]? = some p) : p.r < x.r ∨ p.r = x.r ∧ p.k < x.k := by
  unfold entA at h
  simp only [Bool.and_eq_true, Nat.add_sub_cancel, hp] at h
  have q := h.2
  simp [Ad.befB] at q
  omega
theorem pos_le {r0 r1 r2 r3 : Int} {es : List En} (h : entsB r0 r1 r2 r3 es = true) : ∀ (j : Nat) (x : En), es[j]? = some x → (j : Int) ≤ (x.r - r0) * (r3 - r1 + 1) + (x.k - r1) := by
  intro j
  induction j with
  | zero =>
    intro x hx
    obtain ⟨⟨a1, _, a3, a4⟩, _⟩ := ent_parts ((ents_all _ _ _ _ _).1 h 0 x hx)
    have : 0 ≤ (x.r - r0) * (r3 - r1 + 1) := Int.mul_nonneg (by omega) (by omega)
    omega
  | succ j ih =>
    intro x hx
    have hj : j < es.length := by have := (List.getElem?_eq_some_iff.1 hx).1; omega
    have hp : es[j]? = some es[j] := List.getElem?_eq_getElem hj
    generalize es[j] = p at hp
    have hi := ih p hp
    obtain ⟨⟨a1, a2, a3, a4⟩, _⟩ := ent_parts ((ents_all _ _ _ _ _).1 h (j + 1) x hx)
    obtain ⟨⟨b1, b2, b3, b4⟩, _⟩ := ent_parts ((ents_all _ _ _ _ _).1 h j p hp)
    rcases ent_next ((ents_all _ _ _ _ _).1 h (j + 1) x hx) hp with g | ⟨g1, g2⟩
    · have e : (x.r - r0) * (r3 - r1 + 1) = (p.r - r0) * (r3 - r1 + 1) + (x.r - p.r) * (r3 - r1 + 1) := by rw [← Int.add_mul]; congr 1; omega
      have e2 : (r3 - r1 + 1) ≤ (x.r - p.r) * (r3 - r1 + 1) := by
        have := Int.mul_le_mul_of_nonneg_right (show (1 : Int) ≤ x.r - p.r by omega) (show 0 ≤ r3 - r1 + 1 by omega)
        rwa [Int.one_mul] at this
      omega
    · rw [← g1]; omega
theorem ents_fit {r0 r1 r2 r3 : Int} {es : List En} (h : entsB r0 r1 r2 r3 es = true) (h1 : r0 ≤ r2) (h2 : r1 ≤ r3) : (es.length : Int) ≤ (r2 - r0 + 1) * (r3 - r1 + 1) := by
  by_cases h0 : es.length = 0
  · rw [h0]; exact Int.mul_nonneg (by omega) (by omega)
  · have hj : es.length - 1 < es.length := by omega
    have hp : es[es.length - 1]? = some es[es.length - 1] := List.getElem?_eq_getElem hj
    generalize es[es.length - 1] = x at hp
    have hi := pos_le h _ x hp
    obtain ⟨⟨a1, a2, a3, a4⟩, _⟩ := ent_parts ((ents_all _ _ _ _ _).1 h _ x hp)
    have e : (x.r - r0) * (r3 - r1 + 1) ≤ (r2 - r0) * (r3 - r1 + 1) := Int.mul_le_mul_of_nonneg_right (by omega) (by omega)
    rw [Int.add_mul, Int.one_mul]
    omega
theorem sm_blank {x : En} (h : mayB x.t x.n x.s x.b x.c = true) : smE 0 0 ⟨#[]⟩ false 0 x = (x.t == 0) := by
  have q := of_decide_eq_true h
  unfold smE sameB
  rw [Bool.eq_iff_iff, decide_eq_true_iff, beq_iff_eq]
  constructor
  · intro g; exact g.1
  · intro g
    exact ⟨g, q.1 (by omega), q.2.1 (by omega), q.2.2.1 (by omega), q.2.2.2.1 (by omega)⟩
theorem cw_fil : ∀ {es : List En}, (∀ x ∈ es, mayB x.t x.n x.s x.b x.c = true) → cwI 0 0 ⟨#[]⟩ false 0 es + filI (es.map itE) = es.length
  | [], _ => rfl
  | x :: es, h => by
    have ih := cw_fil (es := es) (fun y hy => h y (List.mem_cons_of_mem _ hy))
    have e := sm_blank (h x List.mem_cons_self)
    unfold cwI filI at ih ⊢
    rw [List.map_cons, List.filter_cons, List.filter_cons, e, show (itE x).t = x.t from rfl]
    cases (x.t == 0)
    · simp only [Bool.not_false, if_true, Bool.false_eq_true, if_false, List.length_cons]; omega
    · simp only [Bool.not_true, if_true, Bool.false_eq_true, if_false, List.length_cons]; omega
theorem nums_fil : ∀ (l : List It), (numsI l).length ≤ filI l
  | [] => Nat.le_refl _
  | x :: l => by
    have ih := nums_fil l
    unfold numsI filI at ih ⊢
    rw [List.length_map] at ih ⊢
    rw [List.filter_cons, List.filter_cons]
    by_cases g : x.t = 1
    · rw [g]; simp; omega
    · have e : (x.t == 1) = false := by simpa using g
      rw [e]
      simp only [Bool.false_eq_true, if_false]
      split
      · rw [List.length_cons]; omega
      · exact ih
end Go.Proofs.YtbpbocgbfeblmaaGreatDoor
namespace Go.Proofs.YtbpbocgbfeblmaaGreatDoor
open Go.RowKit
set_option linter.all false
/-- Arguments that may be, one to sixteen, without a fault. -/
structure Gd (W : World) (v : Value) (L : List (Ag × List En)) : Prop where
  hv : AV W v (L.map Prod.fst)
  hE : ∀ q ∈ L, AgE W q
  h0 : 0 < L.length
  h16 : L.length ≤ 16
  hm : L.any mnB = false
  ha : firstF (L.map Prod.fst) = none
  hfi : firstI (itms L) = none
  hM : (itms L).length ≤ 1099511627776
theorem Gd.keep {W W' : World} {v : Value} {L : List (Ag × List En)} (g : Gd W v L) (hb : Below W.heap.size W W') : Gd W' v L := ⟨View.keep g.hv hb, fun q hq => (g.hE q hq).keep hb, g.h0, g.h16, g.hm, g.ha, g.hfi, g.hM⟩
theorem Gd.nums {W : World} {v : Value} {L : List (Ag × List En)} (g : Gd W v L) : Hid (Nums (L.map Prod.fst)) := (show Nums (L.map Prod.fst) from fun a ha => by
  obtain ⟨q, hq, rfl⟩ := List.mem_map.1 ha
  exact (g.hE q hq).n)
theorem tak_x {l : List Bool} (h0 : 0 < l.length) (h16 : l.length ≤ 16) : takB ⟨#[120]⟩ 16 l = true := by
  unfold takB
  rw [Bool.and_eq_true, Bool.and_eq_true]
  refine ⟨⟨decide_eq_true (show 1 ≤ l.length by omega), decide_eq_true (by omega)⟩, ?_⟩
  rw [List.all_eq_true]
  intro q _
  have e : kdB ⟨#[120]⟩ q.2 = 120 := by
    unfold kdB
    rw [show min q.2 ((⟨#[120]⟩ : ByteArray).size - 1) = 0 from Nat.min_eq_right (Nat.zero_le _)]
    rfl
  rw [e]; rfl
theorem nix_x (l : List Ag) : nIx ⟨#[120]⟩ l = [] := by
  unfold nIx
  have e : l.zipIdx.filter (fun q => kdB ⟨#[120]⟩ q.2 == 110) = [] := by
    rw [List.filter_eq_nil_iff]
    intro q _
    have e : kdB ⟨#[120]⟩ q.2 = 120 := by
      unfold kdB
      rw [show min q.2 ((⟨#[120]⟩ : ByteArray).size - 1) = 0 from Nat.min_eq_right (Nat.zero_le _)]
      rfl
    rw [e]; decide
  rw [e]; rfl
theorem Gd.tak {W : World} {v : Value} {L : List (Ag × List En)} (g : Gd W v L) : takB ⟨#[120]⟩ 16 ((L.map Prod.fst).map (·.many)) = true := tak_x (by rw [List.length_map, List.length_map]; exact g.h0) (by rw [List.length_map, List.length_map]; exact g.h16)
theorem Gd.first {W : World} {v : Value} {L : List (Ag × List En)} (_g : Gd W v L) : firstN (nIx ⟨#[120]⟩ (L.map Prod.fst)) = 0 := by rw [nix_x]; rfl
theorem may_in {n : Int} {s : ByteArray} {b : Bool} {c : Int} (h : mayB 1 n s b c = true) (hI : I64 n) : In n := by
  have h2 := of_decide_eq_true (show decide _ = true from h)
  have h3 : n ≠ -9223372036854775808 := h2.2.2.2.2.2.2.1 rfl
  obtain ⟨h4, h5⟩ := hI
  exact ⟨by omega, h5⟩
theorem Gd.numsIn {W : World} {v : Value} {L : List (Ag × List En)} (g : Gd W v L) : ∀ x ∈ numsI (itms L), In x := by
  intro x hx
  unfold numsI at hx
  obtain ⟨it, hit, rfl⟩ := List.mem_map.1 hx
  obtain ⟨h1, h2⟩ := List.mem_filter.1 hit
  have h2 : it.t = 1 := by simpa using h2
  obtain ⟨p, hp, hip⟩ := List.mem_flatMap.1 h1
  have hE := g.hE p hp
  have hmn : mnB p = false := by
    have := List.any_eq_false.1 g.hm p hp
    simpa using this
  obtain ⟨⟨m, t, n, s, b, c, r0, r1, r2, r3, ep, en, ec⟩, es⟩ := p
  unfold itP at hip
  rcases List.mem_append.1 hip with hip | hip
  · cases m with
    | true => simp at hip
    | false =>
      simp at hip
      subst hip
      have h3 : t = 1 := h2
      subst h3
      have h4 : mayB 1 n s b c = true := by
        cases q : mayB 1 n s b c
        · simp [mnB, nosB, q] at hmn
        · rfl
      exact may_in h4 hE.n
  · obtain ⟨e, he, rfl⟩ := List.mem_map.1 hip
    obtain ⟨er, ek, et, en', es', eb, ec'⟩ := e
    have h3 : et = 1 := h2
    subst h3
    cases m with
    | true =>
      have h5 : entsB r0 r1 r2 r3 es = true := by
        cases q : entsB r0 r1 r2 r3 es
        · simp [mnB, q] at hmn
        · rfl
      obtain ⟨j, hj⟩ := List.getElem?_of_mem he
      exact may_in (ent_parts ((ents_all r0 r1 r2 r3 es).1 h5 j _ hj)).2 (hE.en _ he)
    | false =>
      have h6 : ¬ 0 < en := by
        intro q
        simp [mnB, nosB, q] at hmn
      obtain ⟨p', cap, e0, _, _⟩ := hE.vw
      injection e0 with _ e2 _
      have : es.length = 0 := by simp only at e2; omega
      rw [List.eq_nil_of_length_eq_zero this] at he
      cases he
/-- What a function of some numbers answers: nothing is found among none. -/
def svT (l : List Int) : Int := if l = [] then 4 else 1
def svN (f : List Int → Int) (l : List Int) : Int := if l = [] then 0 else f l
def svC (l : List Int) : Int := if l = [] then 6 else 0
theorem svT_y {l : List Int} (h : l ≠ []) : svT l = 1 := if_neg h
theorem svN_y {f : List Int → Int} {l : List Int} (h : l ≠ []) : svN f l = f l := if_neg h
theorem svC_y {l : List Int} (h : l ≠ []) : svC l = 0 := if_neg h
theorem svT_0 : svT [] = 4 := rfl
theorem svN_0 {f : List Int → Int} : svN f [] = 0 := rfl
theorem svC_0 : svC [] = 6 := rfl
theorem nq_SUM : nmI ⟨#[83, 85, 77]⟩ = 0 := by decide
theorem nq_MIN : nmI ⟨#[77, 73, 78]⟩ = 2 := by decide
theorem nq_MAX : nmI ⟨#[77, 65, 88]⟩ = 3 := by decide
theorem nq_AVG : nmI ⟨#[65, 86, 71]⟩ = 4 := by decide
theorem nq_MEDIAN : nmI ⟨#[77, 69, 68, 73, 65, 78]⟩ = 5 := by decide
theorem nq_COUNT : nmI ⟨#[67, 79, 85, 78, 84]⟩ = 6 := by decide
theorem nq_COUNTA : nmI ⟨#[67, 79, 85, 78, 84, 65]⟩ = 7 := by decide
theorem sum_all {W : World} {v : Value} {L : List (Ag × List En)} (g : Gd W v L) : Calls Tryz.prog 6 #[.string ⟨#[83, 85, 77]⟩, v, .int .i64 0] W fun e w' => e = .returned (.agg #[.int .i64 (smT (numsI (itms L)).sum), .int .i64 (smN (numsI (itms L)).sum), .string ⟨#[]⟩, .bool false, .int .i64 (smC (numsI (itms L)).sum)]) ∧ Below W.heap.size W w' := by
  refine c_an_cs ⟨#[83, 85, 77]⟩ W v 0 L g.hv g.nums (by rw [List.length_map]; exact Nat.le_trans g.h16 (by decide)) g.hE (by rw [nq_SUM]; decide) (by decide) (by decide) (by rw [nq_SUM]; exact g.tak) g.hm g.ha (by rw [nq_SUM]; exact g.first) (by rw [nq_SUM]; rfl) g.hfi (by rw [nq_SUM]; decide) _ _ ⟨#[]⟩ false _ ?_
  intro W2 up um uc bb hW hAB hrow
  rw [nq_SUM] at hAB ⊢
  obtain ⟨vq, vc, rfl, hcc, hf⟩ := View.keep g.hv hW
  refine ofa_any 73 bb (fun _ _ => by kernel_rfl) W2 vq up _ vc um uc 0 L ⟨vq, vc, rfl, hcc, hf⟩ (Nat.le_trans g.h16 (by decide)) (show Hid _ from fun q hq => (g.hE q hq).keep hW) g.hM hAB _ _ ⟨#[]⟩ false _ (show Hid _ from fun W3 q m c3 h => ?_)
  have hx := sum_any W3 q m c3 _ h.out.1 (by rw [← h.out.1.len]; exact Nat.le_trans (numsI_len _) g.hM) (show Hid _ from fun x hx => (g.numsIn x hx).i64)
  exact hx.mono fun e w' ⟨he, hb⟩ => ⟨he, Mut.below (Mut.refl _ _) hb⟩
theorem count_all {W : World} {v : Value} {L : List (Ag × List En)} (g : Gd W v L) : Calls Tryz.prog 6 #[.string ⟨#[67, 79, 85, 78, 84]⟩, v, .int .i64 0] W fun e w' => e = .returned (.agg #[.int .i64 (1), .int .i64 (((numsI (itms L)).length : Int) * 10000), .string ⟨#[]⟩, .bool false, .int .i64 (0)]) ∧ Below W.heap.size W w' := by
  refine c_an_c ⟨#[67, 79, 85, 78, 84]⟩ W v 0 L g.hv g.nums (by rw [List.length_map]; exact Nat.le_trans g.h16 (by decide)) g.hE (by rw [nq_COUNT]; decide) (by decide) (by decide) (by rw [nq_COUNT]; exact g.tak) g.hm g.ha (by rw [nq_COUNT]; exact g.first) (by rw [nq_COUNT]; rfl) (by rw [nq_COUNT]; decide) _ _ ⟨#[]⟩ false _ ?_
  intro W2 up um uc bb hW hAB hrow
  rw [nq_COUNT] at hAB ⊢
  obtain ⟨vq, vc, rfl, hcc, hf⟩ := View.keep g.hv hW
  refine ofa_any 80 bb (fun _ _ => by kernel_rfl) W2 vq up _ vc um uc 0 L ⟨vq, vc, rfl, hcc, hf⟩ (Nat.le_trans g.h16 (by decide)) (show Hid _ from fun q hq => (g.hE q hq).keep hW) g.hM hAB _ _ ⟨#[]⟩ false _ (show Hid _ from fun W3 q m c3 h => ?_)
  have hl := h.out.1.len
  have hx := count_any W3 q m c3 (by rw [← hl]; exact Nat.le_trans (numsI_len _) g.hM)
  rw [hl]
  exact hx.mono fun e w' ⟨he, hb⟩ => ⟨he, Mut.below (Mut.refl _ _) hb⟩
theorem min_all {W : World} {v : Value} {L : List (Ag × List En)} (g : Gd W v L) : Calls Tryz.prog 6 #[.string ⟨#[77, 73, 78]⟩, v, .int .i64 0] W fun e w' => e = .returned (.agg #[.int .i64 (svT (numsI (itms L))), .int .i64 (svN mnL (numsI (itms L))), .string ⟨#[]⟩, .bool false, .int .i64 (svC (numsI (itms L)))]) ∧ Below W.heap.size W w' := by
  refine c_an_cs ⟨#[77, 73, 78]⟩ W v 0 L g.hv g.nums (by rw [List.length_map]; exact Nat.le_trans g.h16 (by decide)) g.hE (by rw [nq_MIN]; decide) (by decide) (by decide) (by rw [nq_MIN]; exact g.tak) g.hm g.ha (by rw [nq_MIN]; exact g.first) (by rw [nq_MIN]; rfl) g.hfi (by rw [nq_MIN]; decide) _ _ ⟨#[]⟩ false _ ?_
  intro W2 up um uc bb hW hAB hrow
  rw [nq_MIN] at hAB ⊢
  obtain ⟨vq, vc, rfl, hcc, hf⟩ := View.keep g.hv hW
  obtain ⟨cb, hb1, hb2⟩ : SomeV W2 (.func (.func 76) #[] #[]) bb := hAB
  refine ofb_any 111 bb cb (fun _ _ => by kernel_rfl) W2 vq up _ vc um uc 0 L ⟨vq, vc, rfl, hcc, hf⟩ (Nat.le_trans g.h16 (by decide)) (show Hid _ from fun q hq => (g.hE q hq).keep hW) g.hM hb1 _ _ ⟨#[]⟩ false _ (show Hid _ from fun W3 q m c3 hw3 h => ?_)
  have hl := h.out.1.len
  have hm40 : m ≤ 1099511627776 := by rw [← hl]; exact Nat.le_trans (numsI_len _) g.hM
  have hin := g.numsIn
  by_cases h0 : 0 < m
  · have hne : (numsI (itms L)) ≠ [] := fun e => by rw [e] at hl; simp at hl; omega
    rw [svT_y hne, svN_y hne, svC_y hne]
    refine ofs_y 76 cb (fun _ _ => by kernel_rfl) q m c3 W3 h0 (Own.keep hb2 hw3) (fun g' hg' => (Row.lt h.out.2.2 g' hg').2) _ _ ⟨#[]⟩ false _ (show Hid _ from fun W4 hw4 => ?_)
    exact (least_any W4 q m c3 _ (NV.keep h.out.1 hw4) h0 hm40 hin).mono fun e w' ⟨he, hb⟩ => ⟨he, Mut.below (Mut.refl _ _) hb⟩
  · obtain rfl : m = 0 := by omega
    have he : (numsI (itms L)) = [] := List.eq_nil_of_length_eq_zero hl
    rw [he, svT_0, svN_0, svC_0]
    exact (ofs_0 cb q c3 W3).mono fun e w' ⟨he, hb⟩ => ⟨he, Mut.below (Mut.refl _ _) hb⟩
theorem max_all {W : World} {v : Value} {L : List (Ag × List En)} (g : Gd W v L) : Calls Tryz.prog 6 #[.string ⟨#[77, 65, 88]⟩, v, .int .i64 0] W fun e w' => e = .returned (.agg #[.int .i64 (svT (numsI (itms L))), .int .i64 (svN mxL (numsI (itms L))), .string ⟨#[]⟩, .bool false, .int .i64 (svC (numsI (itms L)))]) ∧ Below W.heap.size W w' := by
  refine c_an_cs ⟨#[77, 65, 88]⟩ W v 0 L g.hv g.nums (by rw [List.length_map]; exact Nat.le_trans g.h16 (by decide)) g.hE (by rw [nq_MAX]; decide) (by decide) (by decide) (by rw [nq_MAX]; exact g.tak) g.hm g.ha (by rw [nq_MAX]; exact g.first) (by rw [nq_MAX]; rfl) g.hfi (by rw [nq_MAX]; decide) _ _ ⟨#[]⟩ false _ ?_
  intro W2 up um uc bb hW hAB hrow
  rw [nq_MAX] at hAB ⊢
  obtain ⟨vq, vc, rfl, hcc, hf⟩ := View.keep g.hv hW
  obtain ⟨cb, hb1, hb2⟩ : SomeV W2 (.func (.func 77) #[] #[]) bb := hAB
  refine ofb_any 111 bb cb (fun _ _ => by kernel_rfl) W2 vq up _ vc um uc 0 L ⟨vq, vc, rfl, hcc, hf⟩ (Nat.le_trans g.h16 (by decide)) (show Hid _ from fun q hq => (g.hE q hq).keep hW) g.hM hb1 _ _ ⟨#[]⟩ false _ (show Hid _ from fun W3 q m c3 hw3 h => ?_)
  have hl := h.out.1.len
  have hm40 : m ≤ 1099511627776 := by rw [← hl]; exact Nat.le_trans (numsI_len _) g.hM
  have hin := g.numsIn
  by_cases h0 : 0 < m
  · have hne : (numsI (itms L)) ≠ [] := fun e => by rw [e] at hl; simp at hl; omega
    rw [svT_y hne, svN_y hne, svC_y hne]
    refine ofs_y 77 cb (fun _ _ => by kernel_rfl) q m c3 W3 h0 (Own.keep hb2 hw3) (fun g' hg' => (Row.lt h.out.2.2 g' hg').2) _ _ ⟨#[]⟩ false _ (show Hid _ from fun W4 hw4 => ?_)
    exact (great_any W4 q m c3 _ (NV.keep h.out.1 hw4) h0 hm40 hin).mono fun e w' ⟨he, hb⟩ => ⟨he, Mut.below (Mut.refl _ _) hb⟩
  · obtain rfl : m = 0 := by omega
    have he : (numsI (itms L)) = [] := List.eq_nil_of_length_eq_zero hl
    rw [he, svT_0, svN_0, svC_0]
    exact (ofs_0 cb q c3 W3).mono fun e w' ⟨he, hb⟩ => ⟨he, Mut.below (Mut.refl _ _) hb⟩
theorem avg_all {W : World} {v : Value} {L : List (Ag × List En)} (g : Gd W v L) : Calls Tryz.prog 6 #[.string ⟨#[65, 86, 71]⟩, v, .int .i64 0] W fun e w' => e = .returned (.agg #[.int .i64 (svT (numsI (itms L))), .int .i64 (svN avgL (numsI (itms L))), .string ⟨#[]⟩, .bool false, .int .i64 (svC (numsI (itms L)))]) ∧ Below W.heap.size W w' := by
  refine c_an_cs ⟨#[65, 86, 71]⟩ W v 0 L g.hv g.nums (by rw [List.length_map]; exact Nat.le_trans g.h16 (by decide)) g.hE (by rw [nq_AVG]; decide) (by decide) (by decide) (by rw [nq_AVG]; exact g.tak) g.hm g.ha (by rw [nq_AVG]; exact g.first) (by rw [nq_AVG]; rfl) g.hfi (by rw [nq_AVG]; decide) _ _ ⟨#[]⟩ false _ ?_
  intro W2 up um uc bb hW hAB hrow
  rw [nq_AVG] at hAB ⊢
  obtain ⟨vq, vc, rfl, hcc, hf⟩ := View.keep g.hv hW
  obtain ⟨cb, hb1, hb2⟩ : SomeV W2 (.func (.func 78) #[] #[]) bb := hAB
  refine ofb_any 111 bb cb (fun _ _ => by kernel_rfl) W2 vq up _ vc um uc 0 L ⟨vq, vc, rfl, hcc, hf⟩ (Nat.le_trans g.h16 (by decide)) (show Hid _ from fun q hq => (g.hE q hq).keep hW) g.hM hb1 _ _ ⟨#[]⟩ false _ (show Hid _ from fun W3 q m c3 hw3 h => ?_)
  have hl := h.out.1.len
  have hm40 : m ≤ 1099511627776 := by rw [← hl]; exact Nat.le_trans (numsI_len _) g.hM
  have hin := g.numsIn
  by_cases h0 : 0 < m
  · have hne : (numsI (itms L)) ≠ [] := fun e => by rw [e] at hl; simp at hl; omega
    rw [svT_y hne, svN_y hne, svC_y hne]
    refine ofs_y 78 cb (fun _ _ => by kernel_rfl) q m c3 W3 h0 (Own.keep hb2 hw3) (fun g' hg' => (Row.lt h.out.2.2 g' hg').2) _ _ ⟨#[]⟩ false _ (show Hid _ from fun W4 hw4 => ?_)
    exact (avg_any W4 q m c3 _ (NV.keep h.out.1 hw4) h0 hm40 hin).mono fun e w' ⟨he, hb⟩ => ⟨he, Mut.below (Mut.refl _ _) hb⟩
  · obtain rfl : m = 0 := by omega
    have he : (numsI (itms L)) = [] := List.eq_nil_of_length_eq_zero hl
    rw [he, svT_0, svN_0, svC_0]
    exact (ofs_0 cb q c3 W3).mono fun e w' ⟨he, hb⟩ => ⟨he, Mut.below (Mut.refl _ _) hb⟩
theorem median_all {W : World} {v : Value} {L : List (Ag × List En)} (g : Gd W v L) : Calls Tryz.prog 6 #[.string ⟨#[77, 69, 68, 73, 65, 78]⟩, v, .int .i64 0] W fun e w' => e = .returned (.agg #[.int .i64 (svT (numsI (itms L))), .int .i64 (svN medL (numsI (itms L))), .string ⟨#[]⟩, .bool false, .int .i64 (svC (numsI (itms L)))]) ∧ Below W.heap.size W w' := by
  refine c_an_cs ⟨#[77, 69, 68, 73, 65, 78]⟩ W v 0 L g.hv g.nums (by rw [List.length_map]; exact Nat.le_trans g.h16 (by decide)) g.hE (by rw [nq_MEDIAN]; decide) (by decide) (by decide) (by rw [nq_MEDIAN]; exact g.tak) g.hm g.ha (by rw [nq_MEDIAN]; exact g.first) (by rw [nq_MEDIAN]; rfl) g.hfi (by rw [nq_MEDIAN]; decide) _ _ ⟨#[]⟩ false _ ?_
  intro W2 up um uc bb hW hAB hrow
  rw [nq_MEDIAN] at hAB ⊢
  obtain ⟨vq, vc, rfl, hcc, hf⟩ := View.keep g.hv hW
  obtain ⟨cb, hb1, hb2⟩ : SomeV W2 (.func (.func 79) #[] #[]) bb := hAB
  refine ofb_any 111 bb cb (fun _ _ => by kernel_rfl) W2 vq up _ vc um uc 0 L ⟨vq, vc, rfl, hcc, hf⟩ (Nat.le_trans g.h16 (by decide)) (show Hid _ from fun q hq => (g.hE q hq).keep hW) g.hM hb1 _ _ ⟨#[]⟩ false _ (show Hid _ from fun W3 q m c3 hw3 h => ?_)
  have hl := h.out.1.len
  have hm40 : m ≤ 1099511627776 := by rw [← hl]; exact Nat.le_trans (numsI_len _) g.hM
  have hin := g.numsIn
  by_cases h0 : 0 < m
  · have hne : (numsI (itms L)) ≠ [] := fun e => by rw [e] at hl; simp at hl; omega
    rw [svT_y hne, svN_y hne, svC_y hne]
    refine ofs_y 79 cb (fun _ _ => by kernel_rfl) q m c3 W3 h0 (Own.keep hb2 hw3) (fun g' hg' => (Row.lt h.out.2.2 g' hg').2) _ _ ⟨#[]⟩ false _ (show Hid _ from fun W4 hw4 => ?_)
    exact med_any W4 _ q m c3 _ (show Hid _ from Row.keep h.out.2.2 hw4) h0 hm40 h.out.2.1 hl hin
  · obtain rfl : m = 0 := by omega
    have he : (numsI (itms L)) = [] := List.eq_nil_of_length_eq_zero hl
    rw [he, svT_0, svN_0, svC_0]
    exact (ofs_0 cb q c3 W3).mono fun e w' ⟨he, hb⟩ => ⟨he, Mut.below (Mut.refl _ _) hb⟩
theorem counta_all {W : World} {v : Value} {L : List (Ag × List En)} (g : Gd W v L) : Calls Tryz.prog 6 #[.string ⟨#[67, 79, 85, 78, 84, 65]⟩, v, .int .i64 0] W fun e w' => e = .returned (.agg #[.int .i64 (1), .int .i64 ((filI (itms L) : Int) * 10000), .string ⟨#[]⟩, .bool false, .int .i64 (0)]) ∧ Below W.heap.size W w' := by
  refine c_an_p ⟨#[67, 79, 85, 78, 84, 65]⟩ W v 0 L g.hv g.nums (by rw [List.length_map]; exact Nat.le_trans g.h16 (by decide)) g.hE (by rw [nq_COUNTA]; decide) (by decide) (by decide) (by rw [nq_COUNTA]; exact g.tak) g.hm g.ha (by rw [nq_COUNTA]; exact g.first) (by rw [nq_COUNTA]; rfl) (by rw [nq_COUNTA]; decide) _ _ ⟨#[]⟩ false _ ?_
  intro W2 up um uc hW hrow
  rw [nq_COUNTA]
  obtain ⟨vq, vc, rfl, hcc, hf⟩ := View.keep g.hv hW
  exact fil_any W2 _ up _ vc um uc 0 L ⟨_, _, rfl, hcc, hf⟩ (Nat.le_trans g.h16 (by decide)) (show Hid _ from fun q hq => (g.hE q hq).keep hW) g.hM
end Go.Proofs.YtbpbocgbfeblmaaGreatDoor
