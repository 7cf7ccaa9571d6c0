/- The contracts of aggs.average and of total's by at any sum: the sum by how many, rounded, halves away from 0; of aggs.median. New memory alone is made (median turns the row of numbers). The contract of aggs.median. New memory alone is made, but that the row of numbers is turned. -/
import Derived.Test.YtcgcnpcimfaecaaGreatDoorQShelfN
import Derived.Test.YtcgcnpcimfaecaaGreatDoorQGQ
namespace Go.Proofs.YtcgcnpcimfaecaaGreatDoor
open Go.RowKit
set_option linter.all false
theorem div_of (hi lo y s : Int) (h0 : 0 ≤ hi) (hhi : hi < y) (hlo : 0 ≤ lo) (h1 : lo < 18446744073709551616) (hy1 : y < 18446744073709551616) (hs : hi * 18446744073709551616 + lo = s) : DivIs hi lo y (s / y) (s % y) := by
  subst hs
  by_cases h : hi = 0
  · subst h
    rw [Int.zero_mul, Int.zero_add]
    exact fun w => div64_0 lo y w hlo h1 (by omega) hy1
  · exact div64_is hi lo y (by omega) hhi hlo h1 hy1
theorem by_any (hh ll s : Int) (n : Nat) (w : World) (tw : TW hh ll s) (h0 : 0 < n) (h40 : n ≤ 1099511627776) (h1 : (n : Int) * -9223372036854775807 ≤ s) (h2 : s ≤ (n : Int) * 9223372036854775807) : Calls Tryz.prog 119 #[.agg #[.int .u64 hh, .int .u64 ll], .int .i64 n] w fun e w' => e = .returned (.agg #[.int .i64 (1), .int .i64 (rdn s n), .string ⟨#[]⟩, .bool false, .int .i64 (0)]) ∧ Below w.heap.size w w' := by
  have hn : 0 < (n : Int) := by omega
  have hn1 : (n : Int) ≤ 1099511627776 := by omega
  have bd := rdn_bd hn h1 h2
  obtain ⟨a0, a1, b0, b1, eq⟩ := tw
  by_cases hs : 0 ≤ s
  · have e : hh * 18446744073709551616 + ll = s := by omega
    have hhn : hh < n := by omega
    have hd := div_of hh ll n s a0 hhn b0 b1 (by omega) e
    have hr0 := Int.emod_nonneg s (show (n : Int) ≠ 0 by omega)
    have hr1 := Int.emod_lt_of_pos s hn
    have hq0 : 0 ≤ s / (n : Int) := Int.ediv_nonneg hs (by omega)
    have hw : IntKind.i64.wrap hh = hh := by rw [IntKind.wrap_i64]; omega
    have hI : I64 hh := ⟨by omega, by omega⟩
    have hsg : (sgW hh != 0) = false := by unfold sgW; rw [if_neg (by omega)]; rfl
    rw [rdn_pos hs hn] at bd ⊢
    by_cases hu : (n : Int) ≤ 2 * (s % n)
    · rw [if_pos hu] at bd ⊢
      exact by_pu hh ll hh _ _ n w hw hI hsg hd hn hn1 hr0 hr1 hq0 bd.2 hu
    · rw [if_neg hu] at bd ⊢
      exact by_pd hh ll hh _ _ n w hw hI hsg hd hn hn1 hr0 hr1 hq0 bd.2 (by omega)
  · have e : hh * 18446744073709551616 + ll = s + 340282366920938463463374607431768211456 := by omega
    obtain ⟨c, hc⟩ : ∃ c : Int, c = if 0 < ll then 1 else 0 := ⟨_, rfl⟩
    obtain ⟨l2, hl2⟩ : ∃ l2 : Int, l2 = (18446744073709551616 - ll) % 18446744073709551616 := ⟨_, rfl⟩
    obtain ⟨h2', hh2⟩ : ∃ h2' : Int, h2' = (18446744073709551616 - hh - c) % 18446744073709551616 := ⟨_, rfl⟩
    have HN := fun W => neg_any hh ll h2' l2 c W a0 a1 b0 b1 hc hl2 hh2
    have e2 : h2' * 18446744073709551616 + l2 = -s := by
      by_cases q : 0 < ll
      · rw [if_pos q] at hc; omega
      · rw [if_neg q] at hc; omega
    have hd := div_of h2' l2 n (-s) (by omega) (by omega) (by omega) (by omega) (by omega) e2
    have hr0 := Int.emod_nonneg (-s) (show (n : Int) ≠ 0 by omega)
    have hr1 := Int.emod_lt_of_pos (-s) hn
    have hq0 : 0 ≤ (-s) / (n : Int) := Int.ediv_nonneg (by omega) (by omega)
    have hw : IntKind.i64.wrap hh = hh - 18446744073709551616 := by rw [IntKind.wrap_i64]; omega
    have hI : I64 (hh - 18446744073709551616) := ⟨by omega, by omega⟩
    have hsg : (sgW (hh - 18446744073709551616) != 0) = true := by unfold sgW; rw [if_pos (by omega)]; rfl
    rw [rdn_neg (by omega), rdn_pos (show 0 ≤ -s by omega) hn] at bd ⊢
    by_cases hu : (n : Int) ≤ 2 * (-s % n)
    · rw [if_pos hu] at bd ⊢
      exact by_nu hh ll _ _ _ n w hw hI hsg h2' l2 HN hd hn hn1 hr0 hr1 hq0 (by omega) hu
    · rw [if_neg hu] at bd ⊢
      exact by_nd hh ll _ _ _ n w hw hI hsg h2' l2 HN hd hn hn1 hr0 hr1 hq0 (by omega) (by omega)
set_option maxRecDepth 100000 in
theorem avg_any (w : World) (p : Option Addr) (n c : Nat) (l : List Int) (hv : NV w p n l) (h0 : 0 < n) (h40 : n ≤ 1099511627776) (hI : ∀ x ∈ l, In x) : Calls Tryz.prog 83 #[.slice p n c] w fun e w' => e = .returned (.agg #[.int .i64 (1), .int .i64 (avgL l), .string ⟨#[]⟩, .bool false, .int .i64 (0)]) ∧ Below w.heap.size w w' := by
  have mixed : Tryz.prog.follows .mixedOrders = true := by kernel_rfl
  have hb := sum_lohi (lo := -9223372036854775807) (hi := 9223372036854775807) (fun x hx => hI x hx)
  rw [hv.len] at hb
  have HBy : Hid (∀ (hh ll : Int) (W : World), TW hh ll l.sum → Calls Tryz.prog 119 #[.agg #[.int .u64 hh, .int .u64 ll], .int .i64 n] W fun e w' => e = .returned (.agg #[.int .i64 (1), .int .i64 (avgL l), .string ⟨#[]⟩, .bool false, .int .i64 (0)]) ∧ Below W.heap.size W w') := (show _ from fun hh ll W tw => by
    have q := by_any hh ll l.sum n W tw h0 h40 hb.1 hb.2
    unfold avgL
    rw [hv.len]
    exact q)
  have hI2 : Hid (∀ x ∈ l, I64 x) := (show _ from fun x hx => (hI x hx).i64)
  have HV : Hid _ := hv
  clear hv hb hI
  go_enter Tryz.func83, Tryz.ntmps83
  go_wp2_with (first | (go_at_call 112; refine (tot_any _ _ _ _ l (NV.keep HV.out (by with_reducible (repeat' first | assumption | exact Below.refl _ _ | refine Below.drew ?_ | refine bdrewN ?_ _ | refine Below.setCell ?_ (by first | exact Nat.le_refl _ | (simp; done) | (simp; omega) | omega) _ | refine Below.alloc ?_ (by first | exact Nat.le_refl _ | (simp; done) | (simp; omega) | omega) _))) h40 hI2).mono ?_; rintro e wa ⟨⟨hh, ll, rfl, tw⟩, hbwa⟩; have hBwa : Below w.heap.size w wa := bup (by with_reducible (repeat' first | assumption | exact Below.refl _ _ | refine Below.drew ?_ | refine bdrewN ?_ _ | refine Below.setCell ?_ (by first | exact Nat.le_refl _ | (simp; done) | (simp; omega) | omega) _ | refine Below.alloc ?_ (by first | exact Nat.le_refl _ | (simp; done) | (simp; omega) | omega) _)) hbwa; have zwa := hBwa.size; have o0wa : Own wa (w.heap.size) #[.int .i64 0, .int .i64 0, .string ⟨#[]⟩, .bool false, .int .i64 0] := Own.keep (by with_reducible (repeat' first | assumption | refine Own.drew ?_ | refine Own.drewN ?_ _ | (refine Own.at ?_; first | rfl | (simp; done)) | refine Own.past ?_ _)) hbwa; have c0 := o0wa.cell; have f0 := o0wa.fro; have l0 := o0wa.lt) | (go_at_call 119; refine (HBy.out _ _ _ tw).mono ?_; rintro e wb ⟨rfl, hbwb⟩; have hBwb : Below w.heap.size w wb := bup (by with_reducible (repeat' first | assumption | exact Below.refl _ _ | refine Below.drew ?_ | refine bdrewN ?_ _ | refine Below.setCell ?_ (by first | exact Nat.le_refl _ | (simp; done) | (simp; omega) | omega) _ | refine Below.alloc ?_ (by first | exact Nat.le_refl _ | (simp; done) | (simp; omega) | omega) _)) hbwb; have zwb := hBwb.size; have o0wb : Own wb (w.heap.size) #[.int .i64 0, .int .i64 0, .string ⟨#[]⟩, .bool false, .int .i64 0] := Own.keep (by with_reducible (repeat' first | assumption | refine Own.drew ?_ | refine Own.drewN ?_ _ | (refine Own.at ?_; first | rfl | (simp; done)) | refine Own.past ?_ _)) hbwb; have c0 := o0wb.cell; have f0 := o0wb.fro; have l0 := o0wb.lt))
  exact bodyPost_ret (v := (.agg #[.int .i64 (1), .int .i64 (avgL l), .string ⟨#[]⟩, .bool false, .int .i64 (0)])) (by simp [results, Tryz.results83, go_sem, c0, f0, l0]) rfl ⟨rfl, by with_reducible (repeat' first | assumption | exact Below.refl _ _ | refine Below.drew ?_ | refine bdrewN ?_ _ | refine Below.setCell ?_ (by first | exact Nat.le_refl _ | (simp; done) | (simp; omega) | omega) _ | refine Below.alloc ?_ (by first | exact Nat.le_refl _ | (simp; done) | (simp; omega) | omega) _)⟩
set_option maxRecDepth 100000 in
set_option maxHeartbeats 2000000 in
theorem med_odd (w : World) (B : Nat) (p : Option Addr) (m c : Nat) (l : List Int) (hr : Hid (Row icell 1 2 w B (.slice p m c) l)) (h0 : 0 < m) (h40 : m ≤ 1099511627776) (hl : l.length = m) (hI : ∀ x ∈ l, In x) (hodd : m % 2 = 1) : Calls Tryz.prog 84 #[.slice p m c] w fun e w' => e = .returned (.agg #[.int .i64 (1), .int .i64 (medL l), .string ⟨#[]⟩, .bool false, .int .i64 (0)]) ∧ Mut (fun q => (Value.slice p m c).ownBlock = some q) w w' := by
  obtain ⟨k, hk⟩ : ∃ k : Nat, m / 2 = k := ⟨_, rfl⟩
  obtain ⟨y, hy⟩ : ∃ y : Int, (srt l)[k]? = some y := ⟨_, List.getElem?_eq_getElem (by rw [srt_len]; omega)⟩
  have hyI : Hid (In y) := (show In y from hI y (srt_mem.1 (List.mem_of_getElem? hy)))
  have hme : medL l = y := by
    unfold medL
    rw [if_neg (by omega), hl, hk, List.getD_eq_getElem?_getD, hy, Option.getD_some]
  rw [hme]
  have HY : Hid _ := hy
  have hkm : (k : Int) < (m : Int) := by omega
  have hk0 : (0 : Int) ≤ (k : Int) := by omega
  have hq : (m : Int).tdiv 2 = (k : Int) := by rw [Int.tdiv_eq_ediv_of_nonneg (by omega)]; omega
  have hrm : (m : Int).tmod 2 = 1 := by rw [Int.tmod_eq_emod_of_nonneg (by omega)]; omega
  have hkw : wrap64 (k : Int) = k := by unfold wrap64; omega
  clear hy hme
  go_enter Tryz.func84, Tryz.ntmps84
  go_wp2_with (first | (go_at_call 120; refine (sort_row _ B _ _ _ l (Row.keep hr.out (by with_reducible (repeat' first | assumption | exact Below.refl _ _ | refine Below.drew ?_ | refine bdrewN ?_ _ | refine Below.setCell ?_ (by first | exact Nat.le_refl _ | (simp; done) | (simp; omega) | omega) _ | refine Below.alloc ?_ (by first | exact Nat.le_refl _ | (simp; done) | (simp; omega) | omega) _))) h0 h40).mono ?_; rintro e wb ⟨rfl, hsv, hmt⟩; have hgb : Hid (∀ g, (Value.slice p m c).ownBlock = some g → g < w.heap.size) := (show ∀ g, (Value.slice p m c).ownBlock = some g → g < w.heap.size from fun g hg => (Row.lt hr.out g hg).2); have hM : Mut (fun q => (Value.slice p m c).ownBlock = some q) w wb := Mut.call (Mut.alloc (Mut.refl _ w) _) hmt (fun b hb => .inl hb); have zwb := hM.size; have o0 : Own wb w.heap.size #[.int .i64 0, .int .i64 0, .string ⟨#[]⟩, .bool false, .int .i64 0] := Own.mut (by with_reducible (repeat' first | assumption | refine Own.drew ?_ | refine Own.drewN ?_ _ | (refine Own.at ?_; first | rfl | (simp; done)) | refine Own.past ?_ _)) hmt (fun h => by have := hgb.out _ h; omega); have l0 := o0.lt; obtain ⟨gb, go, hpe, hgl, hgc⟩ := hsv.out.at_ (by omega); have cy := hgc k y HY.out; clear hgc; subst hpe) | (go_at_call 115; refine (num_t _ _ hyI.out.i64 (by have := hyI.out.1; omega)).mono ?_; rintro e wd ⟨rfl, hbwd⟩; have hM2 := Mut.below hM hbwd; have o1 : Own wd w.heap.size #[.int .i64 0, .int .i64 0, .string ⟨#[]⟩, .bool false, .int .i64 0] := Own.keep (by with_reducible (repeat' first | assumption | refine Own.drew ?_ | refine Own.drewN ?_ _ | (refine Own.at ?_; first | rfl | (simp; done)) | refine Own.past ?_ _)) hbwd; have c0 := o1.cell; have f0 := o1.fro; have l0 := o1.lt))
  exact bodyPost_ret (v := (.agg #[.int .i64 (1), .int .i64 (y), .string ⟨#[]⟩, .bool false, .int .i64 (0)])) (by simp [results, Tryz.results84, go_sem, c0, f0, l0]) rfl ⟨rfl, by with_reducible (repeat' first | assumption | refine Mut.drew ?_ | refine Mut.set ?_ (.inr (by first | exact Nat.le_refl _ | (simp; done))) _)⟩
end Go.Proofs.YtcgcnpcimfaecaaGreatDoor
namespace Go.Proofs.YtcgcnpcimfaecaaGreatDoor
open Go.RowKit
set_option linter.all false
theorem w64 {x : Int} (h1 : -9223372036854775808 ≤ x) (h2 : x ≤ 9223372036854775807) : wrap64 x = x ∧ IntKind.i64.wrap x = x := by
  have h : wrap64 x = x := by unfold wrap64; omega
  exact ⟨h, by rw [IntKind.wrap_i64]; unfold wrap64 at h; exact h⟩
theorem nv_2 {W : World} {gb g j : Nat} {a b : Int} (hl : gb < W.heap.size) (h1 : W.cell? ⟨gb, g + j, none⟩ = some (.int .i64 a)) (h2 : W.cell? ⟨gb, g + (j + 1), none⟩ = some (.int .i64 b)) : NV W (some ⟨gb, g + j, none⟩) 2 [a, b] := by
  refine ⟨rfl, fun _ => ⟨gb, g + j, rfl, hl, fun i x hi => ?_⟩⟩
  have hlt := (List.getElem?_eq_some_iff.1 hi).1
  simp at hlt
  match i, hlt with
  | 0, _ => simp at hi; subst hi; rw [Nat.add_zero]; exact h1
  | 1, _ => simp at hi; subst hi; rw [Nat.add_assoc]; exact h2
set_option maxRecDepth 100000 in
set_option maxHeartbeats 2000000 in
theorem med_even (w : World) (B : Nat) (p : Option Addr) (m c : Nat) (l : List Int) (hr : Hid (Row icell 1 2 w B (.slice p m c) l)) (h0 : 0 < m) (h40 : m ≤ 1099511627776) (hmc : m ≤ c) (hl : l.length = m) (hI : ∀ x ∈ l, In x) (hev : m % 2 = 0) : Calls Tryz.prog 84 #[.slice p m c] w fun e w' => e = .returned (.agg #[.int .i64 (1), .int .i64 (medL l), .string ⟨#[]⟩, .bool false, .int .i64 (0)]) ∧ Mut (fun q => (Value.slice p m c).ownBlock = some q) w w' := by
  obtain ⟨j, hj⟩ : ∃ j : Nat, m / 2 = j + 1 := ⟨m / 2 - 1, by omega⟩
  obtain ⟨a, ha⟩ : ∃ y : Int, (srt l)[j]? = some y := ⟨_, List.getElem?_eq_getElem (by rw [srt_len]; omega)⟩
  obtain ⟨b, hb⟩ : ∃ y : Int, (srt l)[j + 1]? = some y := ⟨_, List.getElem?_eq_getElem (by rw [srt_len]; omega)⟩
  have hab : Hid (∀ x ∈ [a, b], In x) := (show ∀ x ∈ [a, b], In x from fun x hx => by
    simp at hx
    rcases hx with rfl | rfl
    · exact hI _ (srt_mem.1 (List.mem_of_getElem? ha))
    · exact hI _ (srt_mem.1 (List.mem_of_getElem? hb)))
  have hme : medL l = avgL [a, b] := by
    unfold medL avgL
    rw [if_pos (by omega), hl, hj, Nat.add_sub_cancel, List.getD_eq_getElem?_getD, ha, List.getD_eq_getElem?_getD, hb]
    simp
  rw [hme]
  have HA : Hid _ := ha
  have HB : Hid _ := hb
  obtain ⟨k, hk⟩ : ∃ k : Nat, k = j + 1 := ⟨_, rfl⟩
  obtain ⟨e2, he2⟩ : ∃ e2 : Nat, e2 = j + 2 := ⟨_, rfl⟩
  have hq : (m : Int).tdiv 2 = (k : Int) := by rw [Int.tdiv_eq_ediv_of_nonneg (by omega)]; omega
  have hrm : (m : Int).tmod 2 = 0 := by rw [Int.tmod_eq_emod_of_nonneg (by omega)]; omega
  have q0 : -9223372036854775808 ≤ (k : Int) := by omega
  have q1 : (k : Int) ≤ 9223372036854775807 := by omega
  have q2 : (k : Int) - 1 = (j : Int) := by omega
  have q3 : -9223372036854775808 ≤ (j : Int) := by omega
  have q4 : (j : Int) ≤ 9223372036854775807 := by omega
  have q5 : (k : Int) + 1 = (e2 : Int) := by omega
  have q6 : -9223372036854775808 ≤ (e2 : Int) := by omega
  have q7 : (e2 : Int) ≤ 9223372036854775807 := by omega
  have hb2 : (j : Int) ≤ (e2 : Int) := by omega
  have hb3 : (e2 : Int) ≤ (c : Int) := by omega
  have hb4 : e2 ≤ c := by omega
  have hb5 : j ≤ e2 := by omega
  have hb6 : e2 - j = 2 := by omega
  have hb7 : ¬ c = j := by omega
  have hkw : wrap64 (k : Int) = (k : Int) := (w64 q0 q1).1
  have hw2 : wrap64 ((k : Int) - 1) = (j : Int) := by rw [q2]; exact (w64 q3 q4).1
  have hw3 : wrap64 ((k : Int) + 1) = (e2 : Int) := by rw [q5]; exact (w64 q6 q7).1
  clear q0 q1 q2 q3 q4 q5 q6 q7
  clear hk he2 hev
  clear ha hb hme hj
  go_enter Tryz.func84, Tryz.ntmps84
  go_wp2_with (first | (go_at_call 120; refine (sort_row _ B _ _ _ l (Row.keep hr.out (by with_reducible (repeat' first | assumption | exact Below.refl _ _ | refine Below.drew ?_ | refine bdrewN ?_ _ | refine Below.setCell ?_ (by first | exact Nat.le_refl _ | (simp; done) | (simp; omega) | omega) _ | refine Below.alloc ?_ (by first | exact Nat.le_refl _ | (simp; done) | (simp; omega) | omega) _))) h0 h40).mono ?_; rintro e wb ⟨rfl, hsv, hmt⟩; have hgb : Hid (∀ g, (Value.slice p m c).ownBlock = some g → g < w.heap.size) := (show ∀ g, (Value.slice p m c).ownBlock = some g → g < w.heap.size from fun g hg => (Row.lt hr.out g hg).2); have hM : Mut (fun q => (Value.slice p m c).ownBlock = some q) w wb := Mut.call (Mut.alloc (Mut.refl _ w) _) hmt (fun b hb => .inl hb); have zwb := hM.size; have o0 : Own wb w.heap.size #[.int .i64 0, .int .i64 0, .string ⟨#[]⟩, .bool false, .int .i64 0] := Own.mut (by with_reducible (repeat' first | assumption | refine Own.drew ?_ | refine Own.drewN ?_ _ | (refine Own.at ?_; first | rfl | (simp; done)) | refine Own.past ?_ _)) hmt (fun h => Nat.lt_irrefl _ (hgb.out _ h)); have l0 := o0.lt; obtain ⟨gb, go, hpe, hgl, hgc⟩ := hsv.out.at_ h0; have hn2 : Hid (NV wb (some ⟨gb, go + j, none⟩) 2 [a, b]) := (show _ from nv_2 hgl (hgc j a HA.out) (hgc (j + 1) b HB.out)); clear hgc; subst hpe) | (go_at_call 83; have hz := avg_any wb (some ⟨gb, go + j, none⟩) 2 (c - j) [a, b] hn2.out (by decide) (by decide) hab.out; with_reducible refine hz.mono ?_; rintro e wd ⟨rfl, hbwd⟩; have hM2 := Mut.below hM hbwd; have o1 : Own wd w.heap.size #[.int .i64 0, .int .i64 0, .string ⟨#[]⟩, .bool false, .int .i64 0] := Own.keep (by with_reducible (repeat' first | assumption | refine Own.drew ?_ | refine Own.drewN ?_ _ | (refine Own.at ?_; first | rfl | (simp; done)) | refine Own.past ?_ _)) hbwd; have c0 := o1.cell; have f0 := o1.fro; have l0 := o1.lt))
  exact bodyPost_ret (v := (.agg #[.int .i64 (1), .int .i64 (avgL [a, b]), .string ⟨#[]⟩, .bool false, .int .i64 (0)])) (by simp [results, Tryz.results84, go_sem, c0, f0, l0]) rfl ⟨rfl, by with_reducible (repeat' first | assumption | refine Mut.drew ?_ | refine Mut.set ?_ (.inr (by first | exact Nat.le_refl _ | (simp; done))) _)⟩
theorem med_any (w : World) (B : Nat) (p : Option Addr) (m c : Nat) (l : List Int) (hr : Hid (Row icell 1 2 w B (.slice p m c) l)) (h0 : 0 < m) (h40 : m ≤ 1099511627776) (hmc : m ≤ c) (hl : l.length = m) (hI : ∀ x ∈ l, In x) : Calls Tryz.prog 84 #[.slice p m c] w fun e w' => e = .returned (.agg #[.int .i64 (1), .int .i64 (medL l), .string ⟨#[]⟩, .bool false, .int .i64 (0)]) ∧ Mut (fun q => (Value.slice p m c).ownBlock = some q) w w' := by
  by_cases h : m % 2 = 0
  · exact med_even w B p m c l hr h0 h40 hmc hl hI h
  · exact med_odd w B p m c l hr h0 h40 hl hI (by omega)
end Go.Proofs.YtcgcnpcimfaecaaGreatDoor
