/- The contracts of aggs.Call at SUM, MIN, MAX, AVG, MEDIAN, COUNT, COUNTA, of any one to sixteen arguments that may be and bear no fault. New memory alone is made. Plain facts of the law's column: it may be, and which numbers it has; the contract of aggs.Call at LARGE, of a column and a place in it. New memory alone is made. -/
import Derived.Test.YtcgcnpcimfaecaaGreatDoorQGP3
import Derived.Test.YtcgcnpcimfaecaaGreatDoorQGX3
import Derived.Test.YtcgcnpcimfaecaaGreatDoorQGK2
namespace Go.Proofs.YtcgcnpcimfaecaaGreatDoor
open Go.RowKit
set_option linter.all false
/-- Arguments that may be, one to sixteen, without a fault. -/
structure Gd (W : World) (v : Value) (L : List (Ag × List En)) : Prop where
  hv : AV W v (L.map Prod.fst)
  hE : ∀ q ∈ L, AgE W q
  h0 : 0 < L.length
  h16 : L.length ≤ 16
  hm : L.any mnB = false
  ha : firstF (L.map Prod.fst) = none
  hfi : firstI (itms L) = none
  hM : (itms L).length ≤ 1099511627776
theorem Gd.keep {W W' : World} {v : Value} {L : List (Ag × List En)} (g : Gd W v L) (hb : Below W.heap.size W W') : Gd W' v L := ⟨View.keep g.hv hb, fun q hq => (g.hE q hq).keep hb, g.h0, g.h16, g.hm, g.ha, g.hfi, g.hM⟩
theorem Gd.nums {W : World} {v : Value} {L : List (Ag × List En)} (g : Gd W v L) : Hid (Nums (L.map Prod.fst)) := (show Nums (L.map Prod.fst) from fun a ha => by
  obtain ⟨q, hq, rfl⟩ := List.mem_map.1 ha
  exact (g.hE q hq).n)
theorem tak_x {l : List Bool} (h0 : 0 < l.length) (h16 : l.length ≤ 16) : takB ⟨#[120]⟩ 16 l = true := by
  unfold takB
  rw [Bool.and_eq_true, Bool.and_eq_true]
  refine ⟨⟨decide_eq_true (show 1 ≤ l.length by omega), decide_eq_true (by omega)⟩, ?_⟩
  rw [List.all_eq_true]
  intro q _
  have e : kdB ⟨#[120]⟩ q.2 = 120 := by
    unfold kdB
    rw [show min q.2 ((⟨#[120]⟩ : ByteArray).size - 1) = 0 from Nat.min_eq_right (Nat.zero_le _)]
    rfl
  rw [e]; rfl
theorem nix_x (l : List Ag) : nIx ⟨#[120]⟩ l = [] := by
  unfold nIx
  have e : l.zipIdx.filter (fun q => kdB ⟨#[120]⟩ q.2 == 110) = [] := by
    rw [List.filter_eq_nil_iff]
    intro q _
    have e : kdB ⟨#[120]⟩ q.2 = 120 := by
      unfold kdB
      rw [show min q.2 ((⟨#[120]⟩ : ByteArray).size - 1) = 0 from Nat.min_eq_right (Nat.zero_le _)]
      rfl
    rw [e]; decide
  rw [e]; rfl
theorem Gd.tak {W : World} {v : Value} {L : List (Ag × List En)} (g : Gd W v L) : takB ⟨#[120]⟩ 16 ((L.map Prod.fst).map (·.many)) = true := tak_x (by rw [List.length_map, List.length_map]; exact g.h0) (by rw [List.length_map, List.length_map]; exact g.h16)
theorem Gd.first {W : World} {v : Value} {L : List (Ag × List En)} (_g : Gd W v L) : firstN (nIx ⟨#[120]⟩ (L.map Prod.fst)) = 0 := by rw [nix_x]; rfl
theorem may_in {n : Int} {s : ByteArray} {b : Bool} {c : Int} (h : mayB 1 n s b c = true) (hI : I64 n) : In n := by
  have h2 := of_decide_eq_true (show decide _ = true from h)
  have h3 : n ≠ -9223372036854775808 := h2.2.2.2.2.2.2.1 rfl
  obtain ⟨h4, h5⟩ := hI
  exact ⟨by omega, h5⟩
theorem Gd.numsIn {W : World} {v : Value} {L : List (Ag × List En)} (g : Gd W v L) : ∀ x ∈ numsI (itms L), In x := by
  intro x hx
  unfold numsI at hx
  obtain ⟨it, hit, rfl⟩ := List.mem_map.1 hx
  obtain ⟨h1, h2⟩ := List.mem_filter.1 hit
  have h2 : it.t = 1 := by simpa using h2
  obtain ⟨p, hp, hip⟩ := List.mem_flatMap.1 h1
  have hE := g.hE p hp
  have hmn : mnB p = false := by
    have := List.any_eq_false.1 g.hm p hp
    simpa using this
  obtain ⟨⟨m, t, n, s, b, c, r0, r1, r2, r3, ep, en, ec⟩, es⟩ := p
  unfold itP at hip
  rcases List.mem_append.1 hip with hip | hip
  · cases m with
    | true => simp at hip
    | false =>
      simp at hip
      subst hip
      have h3 : t = 1 := h2
      subst h3
      have h4 : mayB 1 n s b c = true := by
        cases q : mayB 1 n s b c
        · simp [mnB, nosB, q] at hmn
        · rfl
      exact may_in h4 hE.n
  · obtain ⟨e, he, rfl⟩ := List.mem_map.1 hip
    obtain ⟨er, ek, et, en', es', eb, ec'⟩ := e
    have h3 : et = 1 := h2
    subst h3
    cases m with
    | true =>
      have h5 : entsB r0 r1 r2 r3 es = true := by
        cases q : entsB r0 r1 r2 r3 es
        · simp [mnB, q] at hmn
        · rfl
      obtain ⟨j, hj⟩ := List.getElem?_of_mem he
      exact may_in (ent_parts ((ents_all r0 r1 r2 r3 es).1 h5 j _ hj)).2 (hE.en _ he)
    | false =>
      have h6 : ¬ 0 < en := by
        intro q
        simp [mnB, nosB, q] at hmn
      obtain ⟨p', cap, e0, _, _⟩ := hE.vw
      injection e0 with _ e2 _
      have : es.length = 0 := by simp only at e2; omega
      rw [List.eq_nil_of_length_eq_zero this] at he
      cases he
/-- What a function of some numbers answers: nothing is found among none. -/
def svT (l : List Int) : Int := if l = [] then 4 else 1
def svN (f : List Int → Int) (l : List Int) : Int := if l = [] then 0 else f l
def svC (l : List Int) : Int := if l = [] then 6 else 0
theorem svT_y {l : List Int} (h : l ≠ []) : svT l = 1 := if_neg h
theorem svN_y {f : List Int → Int} {l : List Int} (h : l ≠ []) : svN f l = f l := if_neg h
theorem svC_y {l : List Int} (h : l ≠ []) : svC l = 0 := if_neg h
theorem svT_0 : svT [] = 4 := rfl
theorem svN_0 {f : List Int → Int} : svN f [] = 0 := rfl
theorem svC_0 : svC [] = 6 := rfl
theorem nq_SUM : nmI ⟨#[83, 85, 77]⟩ = 0 := by decide
theorem nq_MIN : nmI ⟨#[77, 73, 78]⟩ = 2 := by decide
theorem nq_MAX : nmI ⟨#[77, 65, 88]⟩ = 3 := by decide
theorem nq_AVG : nmI ⟨#[65, 86, 71]⟩ = 4 := by decide
theorem nq_MEDIAN : nmI ⟨#[77, 69, 68, 73, 65, 78]⟩ = 5 := by decide
theorem nq_COUNT : nmI ⟨#[67, 79, 85, 78, 84]⟩ = 6 := by decide
theorem nq_COUNTA : nmI ⟨#[67, 79, 85, 78, 84, 65]⟩ = 7 := by decide
theorem sum_all {W : World} {v : Value} {L : List (Ag × List En)} (g : Gd W v L) : Calls Tryz.prog 9 #[.string ⟨#[83, 85, 77]⟩, v, .int .i64 0] W fun e w' => e = .returned (.agg #[.int .i64 (smT (numsI (itms L)).sum), .int .i64 (smN (numsI (itms L)).sum), .string ⟨#[]⟩, .bool false, .int .i64 (smC (numsI (itms L)).sum)]) ∧ Below W.heap.size W w' := by
  refine c_an_cs ⟨#[83, 85, 77]⟩ W v 0 L g.hv g.nums (by rw [List.length_map]; exact Nat.le_trans g.h16 (by decide)) g.hE (by rw [nq_SUM]; decide) (by decide) (by decide) (by rw [nq_SUM]; exact g.tak) g.hm g.ha (by rw [nq_SUM]; exact g.first) (by rw [nq_SUM]; rfl) g.hfi (by rw [nq_SUM]; decide) _ _ ⟨#[]⟩ false _ ?_
  intro W2 up um uc bb hW hAB hrow
  rw [nq_SUM] at hAB ⊢
  obtain ⟨vq, vc, rfl, hcc, hf⟩ := View.keep g.hv hW
  refine ofa_any 78 bb (fun _ _ => by kernel_rfl) W2 vq up _ vc um uc 0 L ⟨vq, vc, rfl, hcc, hf⟩ (Nat.le_trans g.h16 (by decide)) (show Hid _ from fun q hq => (g.hE q hq).keep hW) g.hM hAB _ _ ⟨#[]⟩ false _ (show Hid _ from fun W3 q m c3 h => ?_)
  have hx := sum_any W3 q m c3 _ h.out.1 (by rw [← h.out.1.len]; exact Nat.le_trans (numsI_len _) g.hM) (show Hid _ from fun x hx => (g.numsIn x hx).i64)
  exact hx.mono fun e w' ⟨he, hb⟩ => ⟨he, Mut.below (Mut.refl _ _) hb⟩
theorem count_all {W : World} {v : Value} {L : List (Ag × List En)} (g : Gd W v L) : Calls Tryz.prog 9 #[.string ⟨#[67, 79, 85, 78, 84]⟩, v, .int .i64 0] W fun e w' => e = .returned (.agg #[.int .i64 (1), .int .i64 (((numsI (itms L)).length : Int) * 10000), .string ⟨#[]⟩, .bool false, .int .i64 (0)]) ∧ Below W.heap.size W w' := by
  refine c_an_c ⟨#[67, 79, 85, 78, 84]⟩ W v 0 L g.hv g.nums (by rw [List.length_map]; exact Nat.le_trans g.h16 (by decide)) g.hE (by rw [nq_COUNT]; decide) (by decide) (by decide) (by rw [nq_COUNT]; exact g.tak) g.hm g.ha (by rw [nq_COUNT]; exact g.first) (by rw [nq_COUNT]; rfl) (by rw [nq_COUNT]; decide) _ _ ⟨#[]⟩ false _ ?_
  intro W2 up um uc bb hW hAB hrow
  rw [nq_COUNT] at hAB ⊢
  obtain ⟨vq, vc, rfl, hcc, hf⟩ := View.keep g.hv hW
  refine ofa_any 85 bb (fun _ _ => by kernel_rfl) W2 vq up _ vc um uc 0 L ⟨vq, vc, rfl, hcc, hf⟩ (Nat.le_trans g.h16 (by decide)) (show Hid _ from fun q hq => (g.hE q hq).keep hW) g.hM hAB _ _ ⟨#[]⟩ false _ (show Hid _ from fun W3 q m c3 h => ?_)
  have hl := h.out.1.len
  have hx := count_any W3 q m c3 (by rw [← hl]; exact Nat.le_trans (numsI_len _) g.hM)
  rw [hl]
  exact hx.mono fun e w' ⟨he, hb⟩ => ⟨he, Mut.below (Mut.refl _ _) hb⟩
theorem min_all {W : World} {v : Value} {L : List (Ag × List En)} (g : Gd W v L) : Calls Tryz.prog 9 #[.string ⟨#[77, 73, 78]⟩, v, .int .i64 0] W fun e w' => e = .returned (.agg #[.int .i64 (svT (numsI (itms L))), .int .i64 (svN mnL (numsI (itms L))), .string ⟨#[]⟩, .bool false, .int .i64 (svC (numsI (itms L)))]) ∧ Below W.heap.size W w' := by
  refine c_an_cs ⟨#[77, 73, 78]⟩ W v 0 L g.hv g.nums (by rw [List.length_map]; exact Nat.le_trans g.h16 (by decide)) g.hE (by rw [nq_MIN]; decide) (by decide) (by decide) (by rw [nq_MIN]; exact g.tak) g.hm g.ha (by rw [nq_MIN]; exact g.first) (by rw [nq_MIN]; rfl) g.hfi (by rw [nq_MIN]; decide) _ _ ⟨#[]⟩ false _ ?_
  intro W2 up um uc bb hW hAB hrow
  rw [nq_MIN] at hAB ⊢
  obtain ⟨vq, vc, rfl, hcc, hf⟩ := View.keep g.hv hW
  obtain ⟨cb, hb1, hb2⟩ : SomeV W2 (.func (.func 81) #[] #[]) bb := hAB
  refine ofb_any 116 bb cb (fun _ _ => by kernel_rfl) W2 vq up _ vc um uc 0 L ⟨vq, vc, rfl, hcc, hf⟩ (Nat.le_trans g.h16 (by decide)) (show Hid _ from fun q hq => (g.hE q hq).keep hW) g.hM hb1 _ _ ⟨#[]⟩ false _ (show Hid _ from fun W3 q m c3 hw3 h => ?_)
  have hl := h.out.1.len
  have hm40 : m ≤ 1099511627776 := by rw [← hl]; exact Nat.le_trans (numsI_len _) g.hM
  have hin := g.numsIn
  by_cases h0 : 0 < m
  · have hne : (numsI (itms L)) ≠ [] := fun e => by rw [e] at hl; simp at hl; omega
    rw [svT_y hne, svN_y hne, svC_y hne]
    refine ofs_y 81 cb (fun _ _ => by kernel_rfl) q m c3 W3 h0 (Own.keep hb2 hw3) (fun g' hg' => (Row.lt h.out.2.2 g' hg').2) _ _ ⟨#[]⟩ false _ (show Hid _ from fun W4 hw4 => ?_)
    exact (least_any W4 q m c3 _ (NV.keep h.out.1 hw4) h0 hm40 hin).mono fun e w' ⟨he, hb⟩ => ⟨he, Mut.below (Mut.refl _ _) hb⟩
  · obtain rfl : m = 0 := by omega
    have he : (numsI (itms L)) = [] := List.eq_nil_of_length_eq_zero hl
    rw [he, svT_0, svN_0, svC_0]
    exact (ofs_0 cb q c3 W3).mono fun e w' ⟨he, hb⟩ => ⟨he, Mut.below (Mut.refl _ _) hb⟩
theorem max_all {W : World} {v : Value} {L : List (Ag × List En)} (g : Gd W v L) : Calls Tryz.prog 9 #[.string ⟨#[77, 65, 88]⟩, v, .int .i64 0] W fun e w' => e = .returned (.agg #[.int .i64 (svT (numsI (itms L))), .int .i64 (svN mxL (numsI (itms L))), .string ⟨#[]⟩, .bool false, .int .i64 (svC (numsI (itms L)))]) ∧ Below W.heap.size W w' := by
  refine c_an_cs ⟨#[77, 65, 88]⟩ W v 0 L g.hv g.nums (by rw [List.length_map]; exact Nat.le_trans g.h16 (by decide)) g.hE (by rw [nq_MAX]; decide) (by decide) (by decide) (by rw [nq_MAX]; exact g.tak) g.hm g.ha (by rw [nq_MAX]; exact g.first) (by rw [nq_MAX]; rfl) g.hfi (by rw [nq_MAX]; decide) _ _ ⟨#[]⟩ false _ ?_
  intro W2 up um uc bb hW hAB hrow
  rw [nq_MAX] at hAB ⊢
  obtain ⟨vq, vc, rfl, hcc, hf⟩ := View.keep g.hv hW
  obtain ⟨cb, hb1, hb2⟩ : SomeV W2 (.func (.func 82) #[] #[]) bb := hAB
  refine ofb_any 116 bb cb (fun _ _ => by kernel_rfl) W2 vq up _ vc um uc 0 L ⟨vq, vc, rfl, hcc, hf⟩ (Nat.le_trans g.h16 (by decide)) (show Hid _ from fun q hq => (g.hE q hq).keep hW) g.hM hb1 _ _ ⟨#[]⟩ false _ (show Hid _ from fun W3 q m c3 hw3 h => ?_)
  have hl := h.out.1.len
  have hm40 : m ≤ 1099511627776 := by rw [← hl]; exact Nat.le_trans (numsI_len _) g.hM
  have hin := g.numsIn
  by_cases h0 : 0 < m
  · have hne : (numsI (itms L)) ≠ [] := fun e => by rw [e] at hl; simp at hl; omega
    rw [svT_y hne, svN_y hne, svC_y hne]
    refine ofs_y 82 cb (fun _ _ => by kernel_rfl) q m c3 W3 h0 (Own.keep hb2 hw3) (fun g' hg' => (Row.lt h.out.2.2 g' hg').2) _ _ ⟨#[]⟩ false _ (show Hid _ from fun W4 hw4 => ?_)
    exact (great_any W4 q m c3 _ (NV.keep h.out.1 hw4) h0 hm40 hin).mono fun e w' ⟨he, hb⟩ => ⟨he, Mut.below (Mut.refl _ _) hb⟩
  · obtain rfl : m = 0 := by omega
    have he : (numsI (itms L)) = [] := List.eq_nil_of_length_eq_zero hl
    rw [he, svT_0, svN_0, svC_0]
    exact (ofs_0 cb q c3 W3).mono fun e w' ⟨he, hb⟩ => ⟨he, Mut.below (Mut.refl _ _) hb⟩
theorem avg_all {W : World} {v : Value} {L : List (Ag × List En)} (g : Gd W v L) : Calls Tryz.prog 9 #[.string ⟨#[65, 86, 71]⟩, v, .int .i64 0] W fun e w' => e = .returned (.agg #[.int .i64 (svT (numsI (itms L))), .int .i64 (svN avgL (numsI (itms L))), .string ⟨#[]⟩, .bool false, .int .i64 (svC (numsI (itms L)))]) ∧ Below W.heap.size W w' := by
  refine c_an_cs ⟨#[65, 86, 71]⟩ W v 0 L g.hv g.nums (by rw [List.length_map]; exact Nat.le_trans g.h16 (by decide)) g.hE (by rw [nq_AVG]; decide) (by decide) (by decide) (by rw [nq_AVG]; exact g.tak) g.hm g.ha (by rw [nq_AVG]; exact g.first) (by rw [nq_AVG]; rfl) g.hfi (by rw [nq_AVG]; decide) _ _ ⟨#[]⟩ false _ ?_
  intro W2 up um uc bb hW hAB hrow
  rw [nq_AVG] at hAB ⊢
  obtain ⟨vq, vc, rfl, hcc, hf⟩ := View.keep g.hv hW
  obtain ⟨cb, hb1, hb2⟩ : SomeV W2 (.func (.func 83) #[] #[]) bb := hAB
  refine ofb_any 116 bb cb (fun _ _ => by kernel_rfl) W2 vq up _ vc um uc 0 L ⟨vq, vc, rfl, hcc, hf⟩ (Nat.le_trans g.h16 (by decide)) (show Hid _ from fun q hq => (g.hE q hq).keep hW) g.hM hb1 _ _ ⟨#[]⟩ false _ (show Hid _ from fun W3 q m c3 hw3 h => ?_)
  have hl := h.out.1.len
  have hm40 : m ≤ 1099511627776 := by rw [← hl]; exact Nat.le_trans (numsI_len _) g.hM
  have hin := g.numsIn
  by_cases h0 : 0 < m
  · have hne : (numsI (itms L)) ≠ [] := fun e => by rw [e] at hl; simp at hl; omega
    rw [svT_y hne, svN_y hne, svC_y hne]
    refine ofs_y 83 cb (fun _ _ => by kernel_rfl) q m c3 W3 h0 (Own.keep hb2 hw3) (fun g' hg' => (Row.lt h.out.2.2 g' hg').2) _ _ ⟨#[]⟩ false _ (show Hid _ from fun W4 hw4 => ?_)
    exact (avg_any W4 q m c3 _ (NV.keep h.out.1 hw4) h0 hm40 hin).mono fun e w' ⟨he, hb⟩ => ⟨he, Mut.below (Mut.refl _ _) hb⟩
  · obtain rfl : m = 0 := by omega
    have he : (numsI (itms L)) = [] := List.eq_nil_of_length_eq_zero hl
    rw [he, svT_0, svN_0, svC_0]
    exact (ofs_0 cb q c3 W3).mono fun e w' ⟨he, hb⟩ => ⟨he, Mut.below (Mut.refl _ _) hb⟩
theorem median_all {W : World} {v : Value} {L : List (Ag × List En)} (g : Gd W v L) : Calls Tryz.prog 9 #[.string ⟨#[77, 69, 68, 73, 65, 78]⟩, v, .int .i64 0] W fun e w' => e = .returned (.agg #[.int .i64 (svT (numsI (itms L))), .int .i64 (svN medL (numsI (itms L))), .string ⟨#[]⟩, .bool false, .int .i64 (svC (numsI (itms L)))]) ∧ Below W.heap.size W w' := by
  refine c_an_cs ⟨#[77, 69, 68, 73, 65, 78]⟩ W v 0 L g.hv g.nums (by rw [List.length_map]; exact Nat.le_trans g.h16 (by decide)) g.hE (by rw [nq_MEDIAN]; decide) (by decide) (by decide) (by rw [nq_MEDIAN]; exact g.tak) g.hm g.ha (by rw [nq_MEDIAN]; exact g.first) (by rw [nq_MEDIAN]; rfl) g.hfi (by rw [nq_MEDIAN]; decide) _ _ ⟨#[]⟩ false _ ?_
  intro W2 up um uc bb hW hAB hrow
  rw [nq_MEDIAN] at hAB ⊢
  obtain ⟨vq, vc, rfl, hcc, hf⟩ := View.keep g.hv hW
  obtain ⟨cb, hb1, hb2⟩ : SomeV W2 (.func (.func 84) #[] #[]) bb := hAB
  refine ofb_any 116 bb cb (fun _ _ => by kernel_rfl) W2 vq up _ vc um uc 0 L ⟨vq, vc, rfl, hcc, hf⟩ (Nat.le_trans g.h16 (by decide)) (show Hid _ from fun q hq => (g.hE q hq).keep hW) g.hM hb1 _ _ ⟨#[]⟩ false _ (show Hid _ from fun W3 q m c3 hw3 h => ?_)
  have hl := h.out.1.len
  have hm40 : m ≤ 1099511627776 := by rw [← hl]; exact Nat.le_trans (numsI_len _) g.hM
  have hin := g.numsIn
  by_cases h0 : 0 < m
  · have hne : (numsI (itms L)) ≠ [] := fun e => by rw [e] at hl; simp at hl; omega
    rw [svT_y hne, svN_y hne, svC_y hne]
    refine ofs_y 84 cb (fun _ _ => by kernel_rfl) q m c3 W3 h0 (Own.keep hb2 hw3) (fun g' hg' => (Row.lt h.out.2.2 g' hg').2) _ _ ⟨#[]⟩ false _ (show Hid _ from fun W4 hw4 => ?_)
    exact med_any W4 _ q m c3 _ (show Hid _ from Row.keep h.out.2.2 hw4) h0 hm40 h.out.2.1 hl hin
  · obtain rfl : m = 0 := by omega
    have he : (numsI (itms L)) = [] := List.eq_nil_of_length_eq_zero hl
    rw [he, svT_0, svN_0, svC_0]
    exact (ofs_0 cb q c3 W3).mono fun e w' ⟨he, hb⟩ => ⟨he, Mut.below (Mut.refl _ _) hb⟩
theorem counta_all {W : World} {v : Value} {L : List (Ag × List En)} (g : Gd W v L) : Calls Tryz.prog 9 #[.string ⟨#[67, 79, 85, 78, 84, 65]⟩, v, .int .i64 0] W fun e w' => e = .returned (.agg #[.int .i64 (1), .int .i64 ((filI (itms L) : Int) * 10000), .string ⟨#[]⟩, .bool false, .int .i64 (0)]) ∧ Below W.heap.size W w' := by
  refine c_an_p ⟨#[67, 79, 85, 78, 84, 65]⟩ W v 0 L g.hv g.nums (by rw [List.length_map]; exact Nat.le_trans g.h16 (by decide)) g.hE (by rw [nq_COUNTA]; decide) (by decide) (by decide) (by rw [nq_COUNTA]; exact g.tak) g.hm g.ha (by rw [nq_COUNTA]; exact g.first) (by rw [nq_COUNTA]; rfl) (by rw [nq_COUNTA]; decide) _ _ ⟨#[]⟩ false _ ?_
  intro W2 up um uc hW hrow
  rw [nq_COUNTA]
  obtain ⟨vq, vc, rfl, hcc, hf⟩ := View.keep g.hv hW
  exact fil_any W2 _ up _ vc um uc 0 L ⟨_, _, rfl, hcc, hf⟩ (Nat.le_trans g.h16 (by decide)) (show Hid _ from fun q hq => (g.hE q hq).keep hW) g.hM
end Go.Proofs.YtcgcnpcimfaecaaGreatDoor
namespace Go.Proofs.YtcgcnpcimfaecaaGreatDoor
open Go.RowKit
set_option linter.all false
theorem fx_in {x : Int} (h : I64 x) : In (fx x) := by
  obtain ⟨h1, h2⟩ := h
  unfold fx
  split
  · exact ⟨by decide, by decide⟩
  · exact ⟨by omega, by omega⟩
/-- The argument that the law makes of a column. -/
def agK (n : Nat) (p : Option Addr) (c : Nat) : Ag := ⟨true, 0, 0, ⟨#[]⟩, false, 0, 1, 1, btm n, 1, p, n, c⟩
theorem colE_at {l : List Int} {j : Nat} {e : En} (h : (colE l)[j]? = some e) : ∃ x, l[j]? = some x ∧ e = enAt j x := by
  unfold colE at h
  rw [List.getElem?_map] at h
  obtain ⟨q, hq, rfl⟩ := Option.map_eq_some_iff.1 h
  rw [List.getElem?_zipIdx] at hq
  obtain ⟨x, hx, rfl⟩ := Option.map_eq_some_iff.1 hq
  exact ⟨x, hx, by simp⟩
theorem col_ents {l : List Int} (hI : ∀ x ∈ l, I64 x) (h0 : 0 < l.length) : entsB 1 1 (btm l.length) 1 (colE l) = true := by
  have hb : btm l.length = (l.length : Int) := if_neg (by omega)
  rw [hb]
  refine (ents_all _ _ _ _ _).2 (fun j e hj => ?_)
  obtain ⟨x, hx, rfl⟩ := colE_at hj
  have hjl := (List.getElem?_eq_some_iff.1 hx).1
  have hf := fx_in (hI x (List.mem_of_getElem? hx))
  unfold entA
  have h1 : Ad.inB 1 1 (l.length : Int) 1 (enAt j x).r (enAt j x).k = true := Ad.inB_t ⟨by show (1 : Int) ≤ (j : Int) + 1; omega, by show (j : Int) + 1 ≤ l.length; omega, by show (1 : Int) ≤ 1; omega, by show (1 : Int) ≤ 1; omega⟩
  have h2 : mayB (enAt j x).t (enAt j x).n (enAt j x).s (enAt j x).b (enAt j x).c = true := by
    show mayB 1 (fx x) ⟨#[]⟩ false 0 = true
    unfold mayB
    have h3 : fx x ≠ -9223372036854775808 := by have := hf.1; omega
    simp [h3]
  rw [h1, h2]
  cases j with
  | zero => cases (colE l)[0 - 1]? <;> simp
  | succ i =>
    rw [Nat.add_sub_cancel]
    cases hp : (colE l)[i]? with
    | none => rfl
    | some p =>
      obtain ⟨y, hy, rfl⟩ := colE_at hp
      have h4 : Ad.befB (enAt i y).r (enAt i y).k (enAt (i + 1) x).r (enAt (i + 1) x).k = true := Ad.befB_t (.inl (by show (i : Int) + 1 < ((i + 1 : Nat) : Int) + 1; omega))
      simp [h4]
theorem mn_k {l : List Int} (p : Option Addr) (c : Nat) (hI : ∀ x ∈ l, I64 x) (h0 : 0 < l.length) (hn : l.length ≤ 4096) : mnB (agK l.length p c, colE l) = false := by
  have hb : btm l.length = (l.length : Int) := if_neg (by omega)
  show (!vz5 0 0 ⟨#[]⟩ false 0 || !Ad.mayR 1 1 (btm l.length) 1 || !entsB 1 1 (btm l.length) 1 (colE l)) = false
  rw [col_ents hI h0, hb]
  have h1 : Ad.mayR 1 1 (l.length : Int) 1 = true := by unfold Ad.mayR; exact decide_eq_true ⟨⟨by omega, by omega, by omega, by omega⟩, ⟨by omega, by omega, by omega, by omega⟩, by omega, by omega⟩
  rw [h1]
  decide
theorem col_it (l : List Int) (n : Nat) (p : Option Addr) (c : Nat) : itms [(agK n p c, colE l)] = (colE l).map itE := by simp [itms, itP, agK]
theorem col_nums' : ∀ (l : List (Int × Nat)), numsI ((l.map (fun q => enAt q.2 q.1)).map itE) = (l.map (·.1)).map fx
  | [] => rfl
  | q :: l => by
    have ih := col_nums' l
    unfold numsI at ih ⊢
    simp only [List.map_cons]
    rw [List.filter_cons_of_pos (by rfl), List.map_cons, ih]
    rfl
theorem zip_fst (l : List Int) : l.zipIdx.map (·.1) = l := by
  apply List.ext_getElem?
  intro i
  rw [List.getElem?_map, List.getElem?_zipIdx]
  cases l[i]? <;> rfl
theorem col_nums (l : List Int) (n : Nat) (p : Option Addr) (c : Nat) : numsI (itms [(agK n p c, colE l)]) = l.map fx := by
  rw [col_it]
  unfold colE
  rw [col_nums', zip_fst]
theorem col_first (l : List Int) (n : Nat) (p : Option Addr) (c : Nat) : firstI (itms [(agK n p c, colE l)]) = none := by
  rw [col_it]
  unfold firstI
  rw [List.find?_eq_none]
  intro x hx
  obtain ⟨e, he, rfl⟩ := List.mem_map.1 hx
  obtain ⟨j, hj⟩ := List.getElem?_of_mem he
  obtain ⟨y, _, rfl⟩ := colE_at hj
  intro h
  exact absurd h (show ¬ ((1 : Int) == 4) = true from by decide)
theorem colE_en {l : List Int} (hI : ∀ x ∈ l, I64 x) : ∀ x ∈ colE l, I64 x.n := fun x hx => by
  obtain ⟨j, hj⟩ := List.getElem?_of_mem hx
  obtain ⟨y, hy, rfl⟩ := colE_at hj
  exact (fx_in (hI y (List.mem_of_getElem? hy))).i64
theorem age_k {W : World} {B : Nat} {p : Option Addr} {n c : Nat} {l : List Int} (hr : Row En.cells 7 51 W B (.slice p n c) (colE l)) (hn : l.length = n) (hI : ∀ x ∈ l, I64 x) (h40 : n ≤ 4096) : AgE W (agK n p c, colE l) :=
  ⟨row_view hr (by rw [colE_len]; exact hn), colE_en hI, (show I64 0 from ⟨by decide, by decide⟩), by show (colE l).length ≤ 1099511627776; rw [colE_len]; omega⟩
theorem gd_k {W : World} {v : Value} {p : Option Addr} {n c : Nat} {l : List Int} (hv : AV W v [agK n p c]) (hE : AgE W (agK n p c, colE l)) (hn : l.length = n) (hI : ∀ x ∈ l, I64 x) (h0 : 0 < n) (h40 : n ≤ 4096) : Gd W v [(agK n p c, colE l)] := by
  subst hn
  refine ⟨hv, fun q hq => by simp at hq; subst hq; exact hE, by simp, by simp, by rw [List.any_cons, mn_k p c hI h0 h40]; rfl, rfl, col_first _ _ _ _, ?_⟩
  rw [col_it, List.length_map, colE_len]; omega
/-- A single whole number. -/
def sgK (k : Int) : Ag := ⟨false, 1, k * 10000, ⟨#[]⟩, false, 0, 0, 0, 0, 0, none, 0, 0⟩
theorem sgk_may {k : Nat} (h : k ≤ 60) : mayB 1 ((k : Int) * 10000) ⟨#[]⟩ false 0 = true := by
  unfold mayB
  have h4 : (k : Int) * 10000 ≠ -9223372036854775808 := by omega
  simp [h4]
theorem sgk_num {k : Nat} (h : k ≤ 60) : aN (sgK k) = (k : Int) * 10000 := by
  show asNum 1 ((k : Int) * 10000) ⟨#[]⟩ false 0 = _
  unfold asNum
  rw [if_pos ⟨sgk_may h, by decide⟩, if_pos rfl]
theorem sgk_code {k : Nat} (h : k ≤ 60) : cdN (sgK k) = 0 := by
  have h1 : asCode 1 ((k : Int) * 10000) ⟨#[]⟩ false 0 = 0 := by
    unfold asCode
    rw [if_pos ⟨sgk_may h, by decide⟩]; rfl
  have hw : wholeOk ((k : Int) * 10000) = true := by
    unfold wholeOk mayOk
    have h4 : (k : Int) * 10000 ≠ -9223372036854775808 := by omega
    simp [h4]
  unfold cdN
  rw [sgk_num h, if_pos hw]
  show (if asCode 1 ((k : Int) * 10000) ⟨#[]⟩ false 0 = 0 then (0 : Int) else asCode 1 ((k : Int) * 10000) ⟨#[]⟩ false 0) = 0
  rw [h1]; rfl
theorem sgk_val {k : Nat} (h : k ≤ 60) : aI (sgK k) = (k : Int) := by
  unfold aI
  rw [sgk_num h, Int.mul_tdiv_cancel _ (by decide)]
theorem large_k {W : World} {v : Value} {p : Option Addr} {n c : Nat} {l : List Int} {k : Nat} {y : Int} (hv : AV W v [agK n p c, sgK k]) (hE : AgE W (agK n p c, colE l)) (hn : l.length = n) (hI : ∀ x ∈ l, I64 x) (h0 : 0 < n) (h40 : n ≤ 60) (hk1 : 1 ≤ k) (hk2 : k ≤ n) (hy : (srt (l.map fx))[n - k]? = some y) : Calls Tryz.prog 9 #[.string ⟨#[76, 65, 82, 71, 69]⟩, v, .int .i64 0] W fun e w' => e = .returned (.agg #[.int .i64 (1), .int .i64 (y), .string ⟨#[]⟩, .bool false, .int .i64 (0)]) ∧ Below W.heap.size W w' := by
  subst hn
  have hkI : I64 ((k : Int) * 10000) := ⟨by omega, by omega⟩
  have hEs : AgE W (sgK k, []) := ⟨⟨none, 0, rfl, Nat.le_refl _, fun h => absurd h (by simp)⟩, fun x hx => (by cases hx), hkI, by simp⟩
  have hE1 : ∀ q ∈ [(agK l.length p c, colE l), (sgK k, [])], AgE W q := fun q hq => by
    simp at hq
    rcases hq with h | h
    · subst h; exact hE
    · subst h; exact hEs
  have hms : mnB (sgK k, []) = false := by
    show nosB (sgK k) = false
    have h3 := sgk_may (show k ≤ 60 by omega)
    show (false || !mayB 1 ((k : Int) * 10000) ⟨#[]⟩ false 0 || !rz 0 0 0 0 || decide (0 < 0)) = false
    rw [h3]; rfl
  have hni : nIx ⟨#[114, 110]⟩ [agK l.length p c, sgK k] = [sgK k] := rfl
  have hyI : In y := by
    have := srt_mem.1 (List.mem_of_getElem? hy)
    obtain ⟨x, hx, rfl⟩ := List.mem_map.1 this
    exact fx_in (hI x hx)
  refine c_an_ps ⟨#[76, 65, 82, 71, 69]⟩ W v 0 [(agK l.length p c, colE l), (sgK k, [])] hv (show Hid _ from fun a ha => by
      simp at ha
      rcases ha with h | h
      · subst h; exact (show I64 0 from ⟨by decide, by decide⟩)
      · subst h; exact hkI) (show 2 ≤ 1099511627776 by decide) hE1 (by rw [nm_large]; decide) (by decide) (by decide)
    (by rw [nm_large]; rfl) (by rw [List.any_cons, mn_k p c hI h0 (by omega), List.any_cons, hms]; rfl) rfl (by rw [nm_large]; show firstN (nIx ⟨#[114, 110]⟩ [agK l.length p c, sgK k]) = 0; rw [hni]; show (if cdN (sgK k) = 0 then (0 : Int) else cdN (sgK k)) = 0; rw [if_pos (sgk_code (by omega))]) (by rw [nm_large]; rfl) (by
      have e : itms [(agK l.length p c, colE l), (sgK k, [])] = itms [(agK l.length p c, colE l)] ++ [itA (sgK k)] := by simp [itms, itP, sgK, agK]
      rw [e]
      unfold firstI
      rw [List.find?_append]
      have := col_first l l.length p c
      unfold firstI at this
      rw [this]; rfl) (by rw [nm_large]; decide) 1 y ⟨#[]⟩ false 0 ?_
  intro W2 up um uc hW hrow
  rw [nm_large] at hrow ⊢
  have hv2 := View.keep hv hW
  have hsl : ∃ q n c, v = .slice q n c := by obtain ⟨q, c, e, _⟩ := hv; exact ⟨q, _, c, e⟩
  obtain ⟨vq, vn, vc, rfl⟩ := hsl
  obtain ⟨ab, ao, rfl, rfl, hc2, hv1⟩ := view_first hv2
  have hr : Row icell 1 2 W2 0 (.slice up um uc) [(k : Int)] := by
    have h5 : (nIx ⟨#[114, 110]⟩ [agK l.length p c, sgK k]).map aI = [(k : Int)] := by rw [hni, List.map_cons, sgk_val (by omega)]; rfl
    rw [← h5]; exact hrow.out
  rcases Row.two icell_size hr with ⟨_, e⟩ | ⟨g, cap, e, _, hgl, hcap, _, hcl, _⟩
  · cases e
  · injection e with e1 e2 e3
    subst e1 e2 e3
    have hk : W2.cell? ⟨g, 0, none⟩ = some (.int .i64 (k : Int)) := by have := hcl 0 (k : Int) rfl 0 (by decide); simpa [icell] using this
    have hcn := col_nums l l.length p c
    have hln : (numsI (itms [(agK l.length p c, colE l)])).length = l.length := by rw [hcn, List.length_map]
    refine fg_ok W2 ab ao vc g 0 uc 0 k [(agK l.length p c, colE l)] hv1 (show 1 ≤ 1099511627776 by decide) (show Hid _ from fun q hq => (hE1 q (by simp at hq ⊢; exact .inl hq)).keep hW) (by rw [col_it, List.length_map, colE_len]; omega) (by omega) (by omega) hgl hk (by omega) (by rw [hln]; omega) (l.length - k) y (by rw [hln]; omega) (show Hid _ from by rw [hcn]; exact hy) 1 y 0 (show Hid _ from fun W3 => num_t y W3 hyI.i64 (by have := hyI.1; omega)) (show Hid _ from fun W3 q m c3 h0 h => ?_)
    exact sort_row W3 _ q m c3 _ h.out.2.2 h0 (by have h6 := h.out.1.len; rw [hln] at h6; omega)
end Go.Proofs.YtcgcnpcimfaecaaGreatDoor
