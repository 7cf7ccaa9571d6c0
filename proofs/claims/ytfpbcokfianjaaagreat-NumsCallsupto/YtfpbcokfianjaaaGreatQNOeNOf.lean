/- The contract of the document's many (package orielref08): GCD and LCM of one to 16 numbers that may be. New memory alone is made. · The contract of the document's many (package orielref08): GCD and LCM of one to 16 whole numbers. New memory alone is made. -/
import Derived.Test.YtfpbcokfianjaaaGreatQNTxNTy
namespace Go.Proofs.YtfpbcokfianjaaaGreat
open Go.RowKit
set_option linter.all false
/-- Numbers that stand one behind the other from a block's begin on. -/
structure NL (w : World) (b : Nat) (l : List Int) : Prop where
  lt : b < w.heap.size
  cells : ∀ i x, l[i]? = some x → w.cell? ⟨b, i, none⟩ = some (.int .i64 x)
theorem NL.keep {w w' : World} {b : Nat} {l : List Int} (h : NL w b l) (hb : Below w.heap.size w w') : NL w' b l :=
  ⟨Nat.lt_of_lt_of_le h.lt hb.size, fun i x hi => (hb.cell (p := ⟨b, i, none⟩) h.lt).trans (h.cells i x hi)⟩
theorem NL.at {w : World} {b : Nat} {l : List Int} (h : NL w b l) {i : Nat} {x : Int} (hi : l[i]? = some x) : w.cell? ⟨b, i, none⟩ = some (.int .i64 x) := h.cells i x hi
def gU (l : List Int) : Int := l.foldl (fun g x => gcdI g (sz x / 10000)) 0
theorem gU_take {l : List Int} {i : Nat} {x : Int} (h : l[i]? = some x) : gU (l.take (i + 1)) = gcdI (gU (l.take i)) (sz x / 10000) := by
  unfold gU; rw [List.take_succ, h, Option.toList_some, List.foldl_append]; rfl
theorem anyb_take {l : List Int} {f : Int → Bool} {i : Nat} {x : Int} (h : l[i]? = some x) : (l.take (i + 1)).any f = ((l.take i).any f || f x) := by
  rw [List.take_succ, h, Option.toList_some, List.any_append]; simp
theorem gcd_u6 {a b : Int} (ha : U6 a) (hb : U6 b) : U6 (gcdI a b) := by
  unfold gcdI U6 at *
  refine ⟨by omega, ?_⟩
  by_cases h : a.natAbs = 0
  · rw [h, Nat.gcd_zero_left]; omega
  · have := Nat.gcd_le_left b.natAbs (Nat.pos_of_ne_zero h); omega
theorem gU_u6' : ∀ (l : List Int) (a : Int), U6 a → Ins l → U6 (l.foldl (fun g x => gcdI g (sz x / 10000)) a)
  | [], a, ha, _ => ha
  | x :: l, a, ha, hl => gU_u6' l _ (gcd_u6 ha (by
      have := sz_in (hl x (List.mem_cons_self ..))
      have h0 : 0 ≤ sz x := by unfold sz; omega
      exact ⟨by omega, by have := this.2; omega⟩)) (fun y hy => hl y (List.mem_cons_of_mem _ hy))
set_option maxRecDepth 100000 in
set_option maxHeartbeats 1000000 in
theorem many_no (s : ByteArray) (w : World) (b n cap : Nat) (l : List Int) (hb : NL w b l) (hn : l.length = n) (hN : Hid (Ins l)) (h16 : n ≤ 16) (hcap : n ≤ cap) (hbr : l.any brk = true) : Calls Tryz.prog 17 #[.string s, .slice (some ⟨b, 0, none⟩) n cap] w fun e w' => e = .returned (.agg #[.int .i64 (4), .int .i64 (0), .string ⟨#[]⟩, .bool false, .int .i64 (8)]) ∧ Below w.heap.size w w' := by
  have hlt := hb.lt
  have HB : Hid _ := hb
  have HL : Hid (l.length = n) := hn
  clear hb hn
  go_enter Tryz.func17, Tryz.ntmps17
  go_wp2
  go_loopw [5, 7, 8] (fun u5 u7 u8 w' => ∃ i : Nat, u8 = .int .i64 i ∧ i ≤ n ∧ u5 = .int .u64 (gU (l.take i)) ∧ u7 = .bool ((l.take i).any zro) ∧ Below w.heap.size w w' ∧ Own w' w.heap.size #[.int .i64 0, .int .i64 0, .string ⟨#[]⟩, .bool false, .int .i64 0] ∧ Hid ((l.take i).any brk = false)) (fun _ _ v _ => n - (intOf v).toNat)
  case atStart => exact ⟨0, rfl, by omega, rfl, rfl, by with_reducible (repeat' first | assumption | exact Below.refl _ _ | refine Below.drew ?_ | refine bdrewN ?_ _ | refine Below.setCell ?_ (by first | exact Nat.le_refl _ | (simp; done) | (simp; omega) | omega) _ | refine Below.alloc ?_ (by first | exact Nat.le_refl _ | (simp; done) | (simp; omega) | omega) _), by with_reducible (repeat' first | assumption | refine Own.drew ?_ | refine Own.drewN ?_ _ | (refine Own.at ?_; first | rfl | (simp; done)) | refine Own.past ?_ _), rfl⟩
  case round =>
    obtain ⟨i, rfl, hi, rfl, rfl, hB3, o3, hbk⟩ := hrel
    have z3 := hB3.size
    have c0 := o3.cell
    have f0 := o3.fro
    have l0 := o3.lt
    by_cases hlt3 : i < n
    · have hlt' : (i : Int) < n := by omega
      have hai : l[i]? = some (l[i]'(by rw [HL.out]; exact hlt3)) := List.getElem?_eq_getElem _
      have hx := hN.out _ (List.mem_of_getElem? hai)
      have HAi : Hid _ := hai
      revert hx HAi
      generalize (l[i]'(by rw [HL.out]; exact hlt3)) = x
      intro hx HAi
      clear hai
      have x0 := (HB.out.keep hB3).at HAi.out
      have hgu : U6 (gU (l.take i)) := gU_u6' (l.take i) 0 ⟨by decide, by decide⟩ (fun y hy => hN.out y (List.mem_of_mem_take hy))
      have hgs : Hid (gU (l.take (i + 1)) = gcdI (gU (l.take i)) (sz x / 10000)) := gU_take HAi.out
      have hzs : Hid ((l.take (i + 1)).any zro = ((l.take i).any zro || zro x)) := anyb_take HAi.out
      have hbs : Hid ((l.take (i + 1)).any brk = ((l.take i).any brk || brk x)) := anyb_take HAi.out
      have hsx := fun w1 => dsize_any x w1 hx
      obtain ⟨u, hu⟩ : ∃ u, sz x / 10000 = u := ⟨_, rfl⟩
      have hsn : 0 ≤ sz x := by unfold sz; omega
      have hsm : sz x ≤ 9223372036854775807 := (sz_in hx).2
      have hu2 : (sz x).tdiv 10000 = u := by rw [Int.tdiv_eq_ediv_of_nonneg hsn]; exact hu
      have hU : U6 u := ⟨by omega, by omega⟩
      have huw : u % 18446744073709551616 = u := by have := hU.2; have := hU.1; omega
      rw [hu] at hgs
      generalize gU (l.take i) = g at hgu hgs ⊢
      have hgc := fun w1 => dgcd_any g u w1 hgu hU
      generalize sz x = sx at hsx hu hu2 hsn hsm
      cases hbx : brk x
      · have ht : x.tmod 10000 = 0 := Int.tmod_eq_zero_of_dvd (whole_dvd hbx)
        have hz : zro x = (x == 0) := by unfold zro; rw [Bool.eq_iff_iff]; simp; exact eq_comm
        rw [hz] at hzs
        generalize hzb : (l.take i).any zro = zb at hzs ⊢
        cases zb
        · by_cases hx0 : x = 0
          · have hxe : (x == 0) = true := by simp; exact hx0
            rw [hxe] at hzs
            subst hx0
            go_wp2_with (first | (go_at_call 35; refine (hsx _).mono ?_; rintro e w5 ⟨rfl, e5⟩; rw [e5]; clear e5 w5) | (go_at_call 34; refine (hgc _).mono ?_; rintro e w5 ⟨rfl, e5⟩; rw [e5]; clear e5 w5))
            exact ⟨⟨i + 1, by go_num, by omega, by rw [hgs.out], by rw [hzs.out]; first | rfl | simp, by with_reducible (repeat' first | assumption | exact Below.refl _ _ | refine Below.drew ?_ | refine bdrewN ?_ _ | refine Below.setCell ?_ (by first | exact Nat.le_refl _ | (simp; done) | (simp; omega) | omega) _ | refine Below.alloc ?_ (by first | exact Nat.le_refl _ | (simp; done) | (simp; omega) | omega) _), by with_reducible (repeat' first | assumption | refine Own.drew ?_ | refine Own.drewN ?_ _ | (refine Own.at ?_; first | rfl | (simp; done)) | refine Own.past ?_ _), by show _ = false; rw [hbs.out, hbk.out, hbx]; rfl⟩, by simp [intOf]; omega⟩
          · have hxe : (x == 0) = false := by simp; exact hx0
            rw [hxe] at hzs
            go_wp2_with (first | (go_at_call 35; refine (hsx _).mono ?_; rintro e w5 ⟨rfl, e5⟩; rw [e5]; clear e5 w5) | (go_at_call 34; refine (hgc _).mono ?_; rintro e w5 ⟨rfl, e5⟩; rw [e5]; clear e5 w5))
            exact ⟨⟨i + 1, by go_num, by omega, by rw [hgs.out], by rw [hzs.out]; first | rfl | simp, by with_reducible (repeat' first | assumption | exact Below.refl _ _ | refine Below.drew ?_ | refine bdrewN ?_ _ | refine Below.setCell ?_ (by first | exact Nat.le_refl _ | (simp; done) | (simp; omega) | omega) _ | refine Below.alloc ?_ (by first | exact Nat.le_refl _ | (simp; done) | (simp; omega) | omega) _), by with_reducible (repeat' first | assumption | refine Own.drew ?_ | refine Own.drewN ?_ _ | (refine Own.at ?_; first | rfl | (simp; done)) | refine Own.past ?_ _), by show _ = false; rw [hbs.out, hbk.out, hbx]; rfl⟩, by simp [intOf]; omega⟩
        · go_wp2_with (first | (go_at_call 35; refine (hsx _).mono ?_; rintro e w5 ⟨rfl, e5⟩; rw [e5]; clear e5 w5) | (go_at_call 34; refine (hgc _).mono ?_; rintro e w5 ⟨rfl, e5⟩; rw [e5]; clear e5 w5))
          exact ⟨⟨i + 1, by go_num, by omega, by rw [hgs.out], by rw [hzs.out]; first | rfl | simp, by with_reducible (repeat' first | assumption | exact Below.refl _ _ | refine Below.drew ?_ | refine bdrewN ?_ _ | refine Below.setCell ?_ (by first | exact Nat.le_refl _ | (simp; done) | (simp; omega) | omega) _ | refine Below.alloc ?_ (by first | exact Nat.le_refl _ | (simp; done) | (simp; omega) | omega) _), by with_reducible (repeat' first | assumption | refine Own.drew ?_ | refine Own.drewN ?_ _ | (refine Own.at ?_; first | rfl | (simp; done)) | refine Own.past ?_ _), by show _ = false; rw [hbs.out, hbk.out, hbx]; rfl⟩, by simp [intOf]; omega⟩
      · have hr : (x.tmod 10000 != 0) = true := by
          unfold brk wholeOk at hbx; rw [mayOk_t hx.1] at hbx; simpa using hbx
        have hb := tmod_bd x 10000 (by decide)
        revert hr hb
        generalize hg : x.tmod 10000 = r
        intro hr hb
        have hw1 : wrap64 r = r := by unfold wrap64; omega
        go_wp2_with (go_at_call 14; refine (derr_ok _ _ (by decide) (by decide)).mono ?_; rintro e wa ⟨rfl, hbwa⟩; have hBwa : Below w.heap.size w wa := bup (by with_reducible (repeat' first | assumption | exact Below.refl _ _ | refine Below.drew ?_ | refine bdrewN ?_ _ | refine Below.setCell ?_ (by first | exact Nat.le_refl _ | (simp; done) | (simp; omega) | omega) _ | refine Below.alloc ?_ (by first | exact Nat.le_refl _ | (simp; done) | (simp; omega) | omega) _)) hbwa; have zwa := hBwa.size; have o0wa : Own wa (w.heap.size) #[.int .i64 0, .int .i64 0, .string ⟨#[]⟩, .bool false, .int .i64 0] := Own.keep (by with_reducible (repeat' first | assumption | refine Own.drew ?_ | refine Own.drewN ?_ _ | (refine Own.at ?_; first | rfl | (simp; done)) | refine Own.past ?_ _)) hbwa; have c0 := o0wa.cell; have f0 := o0wa.fro; have l0 := o0wa.lt)
        exact bodyPost_ret (v := (.agg #[.int .i64 (4), .int .i64 (0), .string ⟨#[]⟩, .bool false, .int .i64 (8)])) (by simp [results, Tryz.results17, go_sem, c0, f0, l0]) rfl ⟨rfl, by with_reducible (repeat' first | assumption | exact Below.refl _ _ | refine Below.drew ?_ | refine bdrewN ?_ _ | refine Below.setCell ?_ (by first | exact Nat.le_refl _ | (simp; done) | (simp; omega) | omega) _ | refine Below.alloc ?_ (by first | exact Nat.le_refl _ | (simp; done) | (simp; omega) | omega) _)⟩
    · exfalso
      have hil : l.take i = l := List.take_of_length_le (by rw [HL.out]; omega)
      have := hbk.out
      rw [hil, hbr] at this
      cases this
end Go.Proofs.YtfpbcokfianjaaaGreat
namespace Go.Proofs.YtfpbcokfianjaaaGreat
open Go.RowKit
set_option linter.all false
theorem brk_of {l : List Int} (h : Hid (l.any brk = false)) {x : Int} (hx : x ∈ l) : brk x = false := by
  cases hb : brk x
  · rfl
  · have := List.any_eq_true.2 ⟨x, hx, hb⟩
    rw [h.out] at this; cases this
theorem gU_le : ∀ (l : List Int) (a : Int), (0 ≤ a ∧ a ≤ 922337203685477) → Ins l → (0 ≤ l.foldl (fun g x => gcdI g (sz x / 10000)) a ∧ l.foldl (fun g x => gcdI g (sz x / 10000)) a ≤ 922337203685477)
  | [], a, ha, _ => ha
  | x :: l, a, ha, hl => gU_le l _ (by
      have h1 := sz_in (hl x (List.mem_cons_self ..))
      have h0 : 0 ≤ sz x := by unfold sz; omega
      have h2 := h1.2
      have h3 : sz x / 10000 ≤ 922337203685477 := by omega
      have h4 : 0 ≤ sz x / 10000 := by omega
      show 0 ≤ gcdI a (sz x / 10000) ∧ gcdI a (sz x / 10000) ≤ 922337203685477
      generalize sz x / 10000 = u at h3 h4 ⊢
      unfold gcdI
      refine ⟨by omega, ?_⟩
      by_cases h : a.natAbs = 0
      · rw [h, Nat.gcd_zero_left]; omega
      · have := Nat.gcd_le_left u.natAbs (Nat.pos_of_ne_zero h); omega) (fun y hy => hl y (List.mem_cons_of_mem _ hy))
/-- The least multiple in whole ones, if it may be. -/
def lcmU : Int → List Int → Option Int
  | m, [] => some m
  | m, x :: l => if m ≤ 922337203685477 / (sz x / 10000 / gcdI m (sz x / 10000)) then lcmU (m * (sz x / 10000 / gcdI m (sz x / 10000))) l else none
def lcmW (r : Option Int) : Value := match r with
  | some m => numV (m * 10000)
  | none => errV 2
set_option maxRecDepth 100000 in
set_option maxHeartbeats 1000000 in
theorem many_gcd (w : World) (b n cap : Nat) (l : List Int) (hb : NL w b l) (hn : l.length = n) (hN : Hid (Ins l)) (h16 : n ≤ 16) (hcap : n ≤ cap) (hbr : Hid (l.any brk = false)) : Calls Tryz.prog 17 #[.string ⟨#[71, 67, 68]⟩, .slice (some ⟨b, 0, none⟩) n cap] w fun e w' => e = .returned (.agg #[.int .i64 (1), .int .i64 (gU l * 10000), .string ⟨#[]⟩, .bool false, .int .i64 (0)]) ∧ Below w.heap.size w w' := by
  have hlt := hb.lt
  have HB : Hid _ := hb
  have HL : Hid (l.length = n) := hn
  clear hb hn
  go_enter Tryz.func17, Tryz.ntmps17
  go_wp2
  go_loopw [5, 7, 8] (fun u5 u7 u8 w' => ∃ i : Nat, u8 = .int .i64 i ∧ i ≤ n ∧ u5 = .int .u64 (gU (l.take i)) ∧ u7 = .bool ((l.take i).any zro) ∧ Below w.heap.size w w' ∧ Own w' w.heap.size #[.int .i64 0, .int .i64 0, .string ⟨#[]⟩, .bool false, .int .i64 0] ∧ Hid ((l.take i).any brk = false)) (fun _ _ v _ => n - (intOf v).toNat)
  case atStart => exact ⟨0, rfl, by omega, rfl, rfl, by with_reducible (repeat' first | assumption | exact Below.refl _ _ | refine Below.drew ?_ | refine bdrewN ?_ _ | refine Below.setCell ?_ (by first | exact Nat.le_refl _ | (simp; done) | (simp; omega) | omega) _ | refine Below.alloc ?_ (by first | exact Nat.le_refl _ | (simp; done) | (simp; omega) | omega) _), by with_reducible (repeat' first | assumption | refine Own.drew ?_ | refine Own.drewN ?_ _ | (refine Own.at ?_; first | rfl | (simp; done)) | refine Own.past ?_ _), rfl⟩
  case round =>
    obtain ⟨i, rfl, hi, rfl, rfl, hB3, o3, hbk⟩ := hrel
    have z3 := hB3.size
    have c0 := o3.cell
    have f0 := o3.fro
    have l0 := o3.lt
    by_cases hlt3 : i < n
    · have hlt' : (i : Int) < n := by omega
      have hai : l[i]? = some (l[i]'(by rw [HL.out]; exact hlt3)) := List.getElem?_eq_getElem _
      have hx := hN.out _ (List.mem_of_getElem? hai)
      have HAi : Hid _ := hai
      revert hx HAi
      generalize (l[i]'(by rw [HL.out]; exact hlt3)) = x
      intro hx HAi
      clear hai
      have x0 := (HB.out.keep hB3).at HAi.out
      have hgu : U6 (gU (l.take i)) := gU_u6' (l.take i) 0 ⟨by decide, by decide⟩ (fun y hy => hN.out y (List.mem_of_mem_take hy))
      have hgs : Hid (gU (l.take (i + 1)) = gcdI (gU (l.take i)) (sz x / 10000)) := gU_take HAi.out
      have hzs : Hid ((l.take (i + 1)).any zro = ((l.take i).any zro || zro x)) := anyb_take HAi.out
      have hbs : Hid ((l.take (i + 1)).any brk = ((l.take i).any brk || brk x)) := anyb_take HAi.out
      have hsx := fun w1 => dsize_any x w1 hx
      obtain ⟨u, hu⟩ : ∃ u, sz x / 10000 = u := ⟨_, rfl⟩
      have hsn : 0 ≤ sz x := by unfold sz; omega
      have hsm : sz x ≤ 9223372036854775807 := (sz_in hx).2
      have hu2 : (sz x).tdiv 10000 = u := by rw [Int.tdiv_eq_ediv_of_nonneg hsn]; exact hu
      have hU : U6 u := ⟨by omega, by omega⟩
      have huw : u % 18446744073709551616 = u := by have := hU.2; have := hU.1; omega
      rw [hu] at hgs
      generalize gU (l.take i) = g at hgu hgs ⊢
      have hgc := fun w1 => dgcd_any g u w1 hgu hU
      generalize sz x = sx at hsx hu hu2 hsn hsm
      have hbx : brk x = false := brk_of hbr (List.mem_of_getElem? HAi.out)
      have ht : x.tmod 10000 = 0 := Int.tmod_eq_zero_of_dvd (whole_dvd hbx)
      have hz : zro x = (x == 0) := by unfold zro; rw [Bool.eq_iff_iff]; simp; exact eq_comm
      rw [hz] at hzs
      generalize hzb : (l.take i).any zro = zb at hzs ⊢
      cases zb
      · by_cases hx0 : x = 0
        · have hxe : (x == 0) = true := by simp; exact hx0
          rw [hxe] at hzs
          subst hx0
          go_wp2_with (first | (go_at_call 35; refine (hsx _).mono ?_; rintro e w5 ⟨rfl, e5⟩; rw [e5]; clear e5 w5) | (go_at_call 34; refine (hgc _).mono ?_; rintro e w5 ⟨rfl, e5⟩; rw [e5]; clear e5 w5))
          exact ⟨⟨i + 1, by go_num, by omega, by rw [hgs.out], by rw [hzs.out]; first | rfl | simp, by with_reducible (repeat' first | assumption | exact Below.refl _ _ | refine Below.drew ?_ | refine bdrewN ?_ _ | refine Below.setCell ?_ (by first | exact Nat.le_refl _ | (simp; done) | (simp; omega) | omega) _ | refine Below.alloc ?_ (by first | exact Nat.le_refl _ | (simp; done) | (simp; omega) | omega) _), by with_reducible (repeat' first | assumption | refine Own.drew ?_ | refine Own.drewN ?_ _ | (refine Own.at ?_; first | rfl | (simp; done)) | refine Own.past ?_ _), by show _ = false; rw [hbs.out, hbk.out, hbx]; rfl⟩, by simp [intOf]; omega⟩
        · have hxe : (x == 0) = false := by simp; exact hx0
          rw [hxe] at hzs
          go_wp2_with (first | (go_at_call 35; refine (hsx _).mono ?_; rintro e w5 ⟨rfl, e5⟩; rw [e5]; clear e5 w5) | (go_at_call 34; refine (hgc _).mono ?_; rintro e w5 ⟨rfl, e5⟩; rw [e5]; clear e5 w5))
          exact ⟨⟨i + 1, by go_num, by omega, by rw [hgs.out], by rw [hzs.out]; first | rfl | simp, by with_reducible (repeat' first | assumption | exact Below.refl _ _ | refine Below.drew ?_ | refine bdrewN ?_ _ | refine Below.setCell ?_ (by first | exact Nat.le_refl _ | (simp; done) | (simp; omega) | omega) _ | refine Below.alloc ?_ (by first | exact Nat.le_refl _ | (simp; done) | (simp; omega) | omega) _), by with_reducible (repeat' first | assumption | refine Own.drew ?_ | refine Own.drewN ?_ _ | (refine Own.at ?_; first | rfl | (simp; done)) | refine Own.past ?_ _), by show _ = false; rw [hbs.out, hbk.out, hbx]; rfl⟩, by simp [intOf]; omega⟩
      · go_wp2_with (first | (go_at_call 35; refine (hsx _).mono ?_; rintro e w5 ⟨rfl, e5⟩; rw [e5]; clear e5 w5) | (go_at_call 34; refine (hgc _).mono ?_; rintro e w5 ⟨rfl, e5⟩; rw [e5]; clear e5 w5))
        exact ⟨⟨i + 1, by go_num, by omega, by rw [hgs.out], by rw [hzs.out]; first | rfl | simp, by with_reducible (repeat' first | assumption | exact Below.refl _ _ | refine Below.drew ?_ | refine bdrewN ?_ _ | refine Below.setCell ?_ (by first | exact Nat.le_refl _ | (simp; done) | (simp; omega) | omega) _ | refine Below.alloc ?_ (by first | exact Nat.le_refl _ | (simp; done) | (simp; omega) | omega) _), by with_reducible (repeat' first | assumption | refine Own.drew ?_ | refine Own.drewN ?_ _ | (refine Own.at ?_; first | rfl | (simp; done)) | refine Own.past ?_ _), by show _ = false; rw [hbs.out, hbk.out, hbx]; rfl⟩, by simp [intOf]; omega⟩
    · have hlt' : ¬ (i : Int) < n := by omega
      have hil : l.take i = l := List.take_of_length_le (by rw [HL.out]; omega)
      rw [hil]
      have hle : 0 ≤ gU l ∧ gU l ≤ 922337203685477 := gU_le l 0 ⟨by decide, by decide⟩ hN.out
      obtain ⟨q1, q2⟩ := hle
      have hwh := fun w1 => dwhole_f (gU l) w1 q1 q2
      go_wp2_with (go_at_call 36; refine (hwh _).mono ?_; rintro e wa ⟨rfl, hbwa⟩; have hBwa : Below w.heap.size w wa := bup (by with_reducible (repeat' first | assumption | exact Below.refl _ _ | refine Below.drew ?_ | refine bdrewN ?_ _ | refine Below.setCell ?_ (by first | exact Nat.le_refl _ | (simp; done) | (simp; omega) | omega) _ | refine Below.alloc ?_ (by first | exact Nat.le_refl _ | (simp; done) | (simp; omega) | omega) _)) hbwa; have zwa := hBwa.size; have o0wa : Own wa (w.heap.size) #[.int .i64 0, .int .i64 0, .string ⟨#[]⟩, .bool false, .int .i64 0] := Own.keep (by with_reducible (repeat' first | assumption | refine Own.drew ?_ | refine Own.drewN ?_ _ | (refine Own.at ?_; first | rfl | (simp; done)) | refine Own.past ?_ _)) hbwa; have c0 := o0wa.cell; have f0 := o0wa.fro; have l0 := o0wa.lt)
      exact bodyPost_ret (v := (.agg #[.int .i64 (1), .int .i64 (gU l * 10000), .string ⟨#[]⟩, .bool false, .int .i64 (0)])) (by simp [results, Tryz.results17, go_sem, c0, f0, l0]) rfl ⟨rfl, by with_reducible (repeat' first | assumption | exact Below.refl _ _ | refine Below.drew ?_ | refine bdrewN ?_ _ | refine Below.setCell ?_ (by first | exact Nat.le_refl _ | (simp; done) | (simp; omega) | omega) _ | refine Below.alloc ?_ (by first | exact Nat.le_refl _ | (simp; done) | (simp; omega) | omega) _)⟩
set_option maxRecDepth 100000 in
set_option maxHeartbeats 1000000 in
theorem many_lcm0 (w : World) (b n cap : Nat) (l : List Int) (hb : NL w b l) (hn : l.length = n) (hN : Hid (Ins l)) (h16 : n ≤ 16) (hcap : n ≤ cap) (hbr : Hid (l.any brk = false)) (hz0 : l.any zro = true) : Calls Tryz.prog 17 #[.string ⟨#[76, 67, 77]⟩, .slice (some ⟨b, 0, none⟩) n cap] w fun e w' => e = .returned (.agg #[.int .i64 (1), .int .i64 (0), .string ⟨#[]⟩, .bool false, .int .i64 (0)]) ∧ Below w.heap.size w w' := by
  have hlt := hb.lt
  have HB : Hid _ := hb
  have HL : Hid (l.length = n) := hn
  clear hb hn
  go_enter Tryz.func17, Tryz.ntmps17
  go_wp2
  go_loopw [5, 7, 8] (fun u5 u7 u8 w' => ∃ i : Nat, u8 = .int .i64 i ∧ i ≤ n ∧ u5 = .int .u64 (gU (l.take i)) ∧ u7 = .bool ((l.take i).any zro) ∧ Below w.heap.size w w' ∧ Own w' w.heap.size #[.int .i64 0, .int .i64 0, .string ⟨#[]⟩, .bool false, .int .i64 0] ∧ Hid ((l.take i).any brk = false)) (fun _ _ v _ => n - (intOf v).toNat)
  case atStart => exact ⟨0, rfl, by omega, rfl, rfl, by with_reducible (repeat' first | assumption | exact Below.refl _ _ | refine Below.drew ?_ | refine bdrewN ?_ _ | refine Below.setCell ?_ (by first | exact Nat.le_refl _ | (simp; done) | (simp; omega) | omega) _ | refine Below.alloc ?_ (by first | exact Nat.le_refl _ | (simp; done) | (simp; omega) | omega) _), by with_reducible (repeat' first | assumption | refine Own.drew ?_ | refine Own.drewN ?_ _ | (refine Own.at ?_; first | rfl | (simp; done)) | refine Own.past ?_ _), rfl⟩
  case round =>
    obtain ⟨i, rfl, hi, rfl, rfl, hB3, o3, hbk⟩ := hrel
    have z3 := hB3.size
    have c0 := o3.cell
    have f0 := o3.fro
    have l0 := o3.lt
    by_cases hlt3 : i < n
    · have hlt' : (i : Int) < n := by omega
      have hai : l[i]? = some (l[i]'(by rw [HL.out]; exact hlt3)) := List.getElem?_eq_getElem _
      have hx := hN.out _ (List.mem_of_getElem? hai)
      have HAi : Hid _ := hai
      revert hx HAi
      generalize (l[i]'(by rw [HL.out]; exact hlt3)) = x
      intro hx HAi
      clear hai
      have x0 := (HB.out.keep hB3).at HAi.out
      have hgu : U6 (gU (l.take i)) := gU_u6' (l.take i) 0 ⟨by decide, by decide⟩ (fun y hy => hN.out y (List.mem_of_mem_take hy))
      have hgs : Hid (gU (l.take (i + 1)) = gcdI (gU (l.take i)) (sz x / 10000)) := gU_take HAi.out
      have hzs : Hid ((l.take (i + 1)).any zro = ((l.take i).any zro || zro x)) := anyb_take HAi.out
      have hbs : Hid ((l.take (i + 1)).any brk = ((l.take i).any brk || brk x)) := anyb_take HAi.out
      have hsx := fun w1 => dsize_any x w1 hx
      obtain ⟨u, hu⟩ : ∃ u, sz x / 10000 = u := ⟨_, rfl⟩
      have hsn : 0 ≤ sz x := by unfold sz; omega
      have hsm : sz x ≤ 9223372036854775807 := (sz_in hx).2
      have hu2 : (sz x).tdiv 10000 = u := by rw [Int.tdiv_eq_ediv_of_nonneg hsn]; exact hu
      have hU : U6 u := ⟨by omega, by omega⟩
      have huw : u % 18446744073709551616 = u := by have := hU.2; have := hU.1; omega
      rw [hu] at hgs
      generalize gU (l.take i) = g at hgu hgs ⊢
      have hgc := fun w1 => dgcd_any g u w1 hgu hU
      generalize sz x = sx at hsx hu hu2 hsn hsm
      have hbx : brk x = false := brk_of hbr (List.mem_of_getElem? HAi.out)
      have ht : x.tmod 10000 = 0 := Int.tmod_eq_zero_of_dvd (whole_dvd hbx)
      have hz : zro x = (x == 0) := by unfold zro; rw [Bool.eq_iff_iff]; simp; exact eq_comm
      rw [hz] at hzs
      generalize hzb : (l.take i).any zro = zb at hzs ⊢
      cases zb
      · by_cases hx0 : x = 0
        · have hxe : (x == 0) = true := by simp; exact hx0
          rw [hxe] at hzs
          subst hx0
          go_wp2_with (first | (go_at_call 35; refine (hsx _).mono ?_; rintro e w5 ⟨rfl, e5⟩; rw [e5]; clear e5 w5) | (go_at_call 34; refine (hgc _).mono ?_; rintro e w5 ⟨rfl, e5⟩; rw [e5]; clear e5 w5))
          exact ⟨⟨i + 1, by go_num, by omega, by rw [hgs.out], by rw [hzs.out]; first | rfl | simp, by with_reducible (repeat' first | assumption | exact Below.refl _ _ | refine Below.drew ?_ | refine bdrewN ?_ _ | refine Below.setCell ?_ (by first | exact Nat.le_refl _ | (simp; done) | (simp; omega) | omega) _ | refine Below.alloc ?_ (by first | exact Nat.le_refl _ | (simp; done) | (simp; omega) | omega) _), by with_reducible (repeat' first | assumption | refine Own.drew ?_ | refine Own.drewN ?_ _ | (refine Own.at ?_; first | rfl | (simp; done)) | refine Own.past ?_ _), by show _ = false; rw [hbs.out, hbk.out, hbx]; rfl⟩, by simp [intOf]; omega⟩
        · have hxe : (x == 0) = false := by simp; exact hx0
          rw [hxe] at hzs
          go_wp2_with (first | (go_at_call 35; refine (hsx _).mono ?_; rintro e w5 ⟨rfl, e5⟩; rw [e5]; clear e5 w5) | (go_at_call 34; refine (hgc _).mono ?_; rintro e w5 ⟨rfl, e5⟩; rw [e5]; clear e5 w5))
          exact ⟨⟨i + 1, by go_num, by omega, by rw [hgs.out], by rw [hzs.out]; first | rfl | simp, by with_reducible (repeat' first | assumption | exact Below.refl _ _ | refine Below.drew ?_ | refine bdrewN ?_ _ | refine Below.setCell ?_ (by first | exact Nat.le_refl _ | (simp; done) | (simp; omega) | omega) _ | refine Below.alloc ?_ (by first | exact Nat.le_refl _ | (simp; done) | (simp; omega) | omega) _), by with_reducible (repeat' first | assumption | refine Own.drew ?_ | refine Own.drewN ?_ _ | (refine Own.at ?_; first | rfl | (simp; done)) | refine Own.past ?_ _), by show _ = false; rw [hbs.out, hbk.out, hbx]; rfl⟩, by simp [intOf]; omega⟩
      · go_wp2_with (first | (go_at_call 35; refine (hsx _).mono ?_; rintro e w5 ⟨rfl, e5⟩; rw [e5]; clear e5 w5) | (go_at_call 34; refine (hgc _).mono ?_; rintro e w5 ⟨rfl, e5⟩; rw [e5]; clear e5 w5))
        exact ⟨⟨i + 1, by go_num, by omega, by rw [hgs.out], by rw [hzs.out]; first | rfl | simp, by with_reducible (repeat' first | assumption | exact Below.refl _ _ | refine Below.drew ?_ | refine bdrewN ?_ _ | refine Below.setCell ?_ (by first | exact Nat.le_refl _ | (simp; done) | (simp; omega) | omega) _ | refine Below.alloc ?_ (by first | exact Nat.le_refl _ | (simp; done) | (simp; omega) | omega) _), by with_reducible (repeat' first | assumption | refine Own.drew ?_ | refine Own.drewN ?_ _ | (refine Own.at ?_; first | rfl | (simp; done)) | refine Own.past ?_ _), by show _ = false; rw [hbs.out, hbk.out, hbx]; rfl⟩, by simp [intOf]; omega⟩
    · have hlt' : ¬ (i : Int) < n := by omega
      have hil : l.take i = l := List.take_of_length_le (by rw [HL.out]; omega)
      rw [hil]
      rw [hz0]
      go_wp2_with (go_at_call 18; refine (dnum_ok _ _ in0).mono ?_; rintro e wa ⟨rfl, hbwa⟩; have hBwa : Below w.heap.size w wa := bup (by with_reducible (repeat' first | assumption | exact Below.refl _ _ | refine Below.drew ?_ | refine bdrewN ?_ _ | refine Below.setCell ?_ (by first | exact Nat.le_refl _ | (simp; done) | (simp; omega) | omega) _ | refine Below.alloc ?_ (by first | exact Nat.le_refl _ | (simp; done) | (simp; omega) | omega) _)) hbwa; have zwa := hBwa.size; have o0wa : Own wa (w.heap.size) #[.int .i64 0, .int .i64 0, .string ⟨#[]⟩, .bool false, .int .i64 0] := Own.keep (by with_reducible (repeat' first | assumption | refine Own.drew ?_ | refine Own.drewN ?_ _ | (refine Own.at ?_; first | rfl | (simp; done)) | refine Own.past ?_ _)) hbwa; have c0 := o0wa.cell; have f0 := o0wa.fro; have l0 := o0wa.lt)
      exact bodyPost_ret (v := (.agg #[.int .i64 (1), .int .i64 (0), .string ⟨#[]⟩, .bool false, .int .i64 (0)])) (by simp [results, Tryz.results17, go_sem, c0, f0, l0]) rfl ⟨rfl, by with_reducible (repeat' first | assumption | exact Below.refl _ _ | refine Below.drew ?_ | refine bdrewN ?_ _ | refine Below.setCell ?_ (by first | exact Nat.le_refl _ | (simp; done) | (simp; omega) | omega) _ | refine Below.alloc ?_ (by first | exact Nat.le_refl _ | (simp; done) | (simp; omega) | omega) _)⟩
theorem lcm_u {m u : Int} (hm : 0 < m) (hm2 : m ≤ 922337203685477) (hu : 0 < u) (hu2 : u ≤ 922337203685477) : 0 < gcdI m u ∧ gcdI m u ≤ u ∧ 0 < u / gcdI m u ∧ u / gcdI m u ≤ u := by
  have p : 0 < Nat.gcd m.natAbs u.natAbs := Nat.gcd_pos_of_pos_left _ (by omega)
  have q := Nat.gcd_le_right m.natAbs (n := u.natAbs) (by omega)
  have g1 : 0 < gcdI m u := by unfold gcdI; omega
  have g2 : gcdI m u ≤ u := by unfold gcdI; omega
  refine ⟨g1, g2, ?_, Int.ediv_le_self _ (by omega)⟩
  have := (Int.le_ediv_iff_mul_le (a := 1) (b := u) g1).2 (by omega)
  omega
theorem mul_dv {m k : Int} (hk : 0 < k) (h : m ≤ 922337203685477 / k) : m * k ≤ 922337203685477 := (Int.le_ediv_iff_mul_le hk).1 h
set_option maxRecDepth 100000 in
set_option maxHeartbeats 1000000 in
theorem many_lcm (w : World) (b n cap : Nat) (l : List Int) (hb : NL w b l) (hn : l.length = n) (hN : Hid (Ins l)) (h16 : n ≤ 16) (hcap : n ≤ cap) (hbr : Hid (l.any brk = false)) (hz0 : Hid (l.any zro = false)) : Calls Tryz.prog 17 #[.string ⟨#[76, 67, 77]⟩, .slice (some ⟨b, 0, none⟩) n cap] w fun e w' => e = .returned (lcmW (lcmU 1 l)) ∧ Below w.heap.size w w' := by
  have hlt := hb.lt
  have HB : Hid _ := hb
  have HL : Hid (l.length = n) := hn
  clear hb hn
  go_enter Tryz.func17, Tryz.ntmps17
  go_wp2
  go_loopw [5, 7, 8] (fun u5 u7 u8 w' => ∃ i : Nat, u8 = .int .i64 i ∧ i ≤ n ∧ u5 = .int .u64 (gU (l.take i)) ∧ u7 = .bool ((l.take i).any zro) ∧ Below w.heap.size w w' ∧ Own w' w.heap.size #[.int .i64 0, .int .i64 0, .string ⟨#[]⟩, .bool false, .int .i64 0] ∧ Hid ((l.take i).any brk = false)) (fun _ _ v _ => n - (intOf v).toNat)
  case atStart => exact ⟨0, rfl, by omega, rfl, rfl, by with_reducible (repeat' first | assumption | exact Below.refl _ _ | refine Below.drew ?_ | refine bdrewN ?_ _ | refine Below.setCell ?_ (by first | exact Nat.le_refl _ | (simp; done) | (simp; omega) | omega) _ | refine Below.alloc ?_ (by first | exact Nat.le_refl _ | (simp; done) | (simp; omega) | omega) _), by with_reducible (repeat' first | assumption | refine Own.drew ?_ | refine Own.drewN ?_ _ | (refine Own.at ?_; first | rfl | (simp; done)) | refine Own.past ?_ _), rfl⟩
  case round =>
    obtain ⟨i, rfl, hi, rfl, rfl, hB3, o3, hbk⟩ := hrel
    have z3 := hB3.size
    have c0 := o3.cell
    have f0 := o3.fro
    have l0 := o3.lt
    by_cases hlt3 : i < n
    · have hlt' : (i : Int) < n := by omega
      have hai : l[i]? = some (l[i]'(by rw [HL.out]; exact hlt3)) := List.getElem?_eq_getElem _
      have hx := hN.out _ (List.mem_of_getElem? hai)
      have HAi : Hid _ := hai
      revert hx HAi
      generalize (l[i]'(by rw [HL.out]; exact hlt3)) = x
      intro hx HAi
      clear hai
      have x0 := (HB.out.keep hB3).at HAi.out
      have hgu : U6 (gU (l.take i)) := gU_u6' (l.take i) 0 ⟨by decide, by decide⟩ (fun y hy => hN.out y (List.mem_of_mem_take hy))
      have hgs : Hid (gU (l.take (i + 1)) = gcdI (gU (l.take i)) (sz x / 10000)) := gU_take HAi.out
      have hzs : Hid ((l.take (i + 1)).any zro = ((l.take i).any zro || zro x)) := anyb_take HAi.out
      have hbs : Hid ((l.take (i + 1)).any brk = ((l.take i).any brk || brk x)) := anyb_take HAi.out
      have hsx := fun w1 => dsize_any x w1 hx
      obtain ⟨u, hu⟩ : ∃ u, sz x / 10000 = u := ⟨_, rfl⟩
      have hsn : 0 ≤ sz x := by unfold sz; omega
      have hsm : sz x ≤ 9223372036854775807 := (sz_in hx).2
      have hu2 : (sz x).tdiv 10000 = u := by rw [Int.tdiv_eq_ediv_of_nonneg hsn]; exact hu
      have hU : U6 u := ⟨by omega, by omega⟩
      have huw : u % 18446744073709551616 = u := by have := hU.2; have := hU.1; omega
      rw [hu] at hgs
      generalize gU (l.take i) = g at hgu hgs ⊢
      have hgc := fun w1 => dgcd_any g u w1 hgu hU
      generalize sz x = sx at hsx hu hu2 hsn hsm
      have hbx : brk x = false := brk_of hbr (List.mem_of_getElem? HAi.out)
      have ht : x.tmod 10000 = 0 := Int.tmod_eq_zero_of_dvd (whole_dvd hbx)
      have hz : zro x = (x == 0) := by unfold zro; rw [Bool.eq_iff_iff]; simp; exact eq_comm
      rw [hz] at hzs
      generalize hzb : (l.take i).any zro = zb at hzs ⊢
      cases zb
      · by_cases hx0 : x = 0
        · have hxe : (x == 0) = true := by simp; exact hx0
          rw [hxe] at hzs
          subst hx0
          go_wp2_with (first | (go_at_call 35; refine (hsx _).mono ?_; rintro e w5 ⟨rfl, e5⟩; rw [e5]; clear e5 w5) | (go_at_call 34; refine (hgc _).mono ?_; rintro e w5 ⟨rfl, e5⟩; rw [e5]; clear e5 w5))
          exact ⟨⟨i + 1, by go_num, by omega, by rw [hgs.out], by rw [hzs.out]; first | rfl | simp, by with_reducible (repeat' first | assumption | exact Below.refl _ _ | refine Below.drew ?_ | refine bdrewN ?_ _ | refine Below.setCell ?_ (by first | exact Nat.le_refl _ | (simp; done) | (simp; omega) | omega) _ | refine Below.alloc ?_ (by first | exact Nat.le_refl _ | (simp; done) | (simp; omega) | omega) _), by with_reducible (repeat' first | assumption | refine Own.drew ?_ | refine Own.drewN ?_ _ | (refine Own.at ?_; first | rfl | (simp; done)) | refine Own.past ?_ _), by show _ = false; rw [hbs.out, hbk.out, hbx]; rfl⟩, by simp [intOf]; omega⟩
        · have hxe : (x == 0) = false := by simp; exact hx0
          rw [hxe] at hzs
          go_wp2_with (first | (go_at_call 35; refine (hsx _).mono ?_; rintro e w5 ⟨rfl, e5⟩; rw [e5]; clear e5 w5) | (go_at_call 34; refine (hgc _).mono ?_; rintro e w5 ⟨rfl, e5⟩; rw [e5]; clear e5 w5))
          exact ⟨⟨i + 1, by go_num, by omega, by rw [hgs.out], by rw [hzs.out]; first | rfl | simp, by with_reducible (repeat' first | assumption | exact Below.refl _ _ | refine Below.drew ?_ | refine bdrewN ?_ _ | refine Below.setCell ?_ (by first | exact Nat.le_refl _ | (simp; done) | (simp; omega) | omega) _ | refine Below.alloc ?_ (by first | exact Nat.le_refl _ | (simp; done) | (simp; omega) | omega) _), by with_reducible (repeat' first | assumption | refine Own.drew ?_ | refine Own.drewN ?_ _ | (refine Own.at ?_; first | rfl | (simp; done)) | refine Own.past ?_ _), by show _ = false; rw [hbs.out, hbk.out, hbx]; rfl⟩, by simp [intOf]; omega⟩
      · go_wp2_with (first | (go_at_call 35; refine (hsx _).mono ?_; rintro e w5 ⟨rfl, e5⟩; rw [e5]; clear e5 w5) | (go_at_call 34; refine (hgc _).mono ?_; rintro e w5 ⟨rfl, e5⟩; rw [e5]; clear e5 w5))
        exact ⟨⟨i + 1, by go_num, by omega, by rw [hgs.out], by rw [hzs.out]; first | rfl | simp, by with_reducible (repeat' first | assumption | exact Below.refl _ _ | refine Below.drew ?_ | refine bdrewN ?_ _ | refine Below.setCell ?_ (by first | exact Nat.le_refl _ | (simp; done) | (simp; omega) | omega) _ | refine Below.alloc ?_ (by first | exact Nat.le_refl _ | (simp; done) | (simp; omega) | omega) _), by with_reducible (repeat' first | assumption | refine Own.drew ?_ | refine Own.drewN ?_ _ | (refine Own.at ?_; first | rfl | (simp; done)) | refine Own.past ?_ _), by show _ = false; rw [hbs.out, hbk.out, hbx]; rfl⟩, by simp [intOf]; omega⟩
    · have hlt' : ¬ (i : Int) < n := by omega
      have hil : l.take i = l := List.take_of_length_le (by rw [HL.out]; omega)
      rw [hil]
      rw [hz0.out]
      go_wp2
      go_loopw [6, 9] (fun u6 u9 w' => ∃ (j : Nat) (m : Int), u9 = .int .i64 j ∧ j ≤ n ∧ u6 = .int .u64 m ∧ 0 < m ∧ m ≤ 922337203685477 ∧ Below w.heap.size w w' ∧ Own w' w.heap.size #[.int .i64 0, .int .i64 0, .string ⟨#[]⟩, .bool false, .int .i64 0] ∧ Hid (lcmU m (l.drop j) = lcmU 1 l)) (fun _ v _ => n - (intOf v).toNat)
      case atStart => exact ⟨0, 1, rfl, by omega, rfl, by decide, by decide, by with_reducible (repeat' first | assumption | exact Below.refl _ _ | refine Below.drew ?_ | refine bdrewN ?_ _ | refine Below.setCell ?_ (by first | exact Nat.le_refl _ | (simp; done) | (simp; omega) | omega) _ | refine Below.alloc ?_ (by first | exact Nat.le_refl _ | (simp; done) | (simp; omega) | omega) _), by with_reducible (repeat' first | assumption | refine Own.drew ?_ | refine Own.drewN ?_ _ | (refine Own.at ?_; first | rfl | (simp; done)) | refine Own.past ?_ _), rfl⟩
      case round =>
        obtain ⟨j, m, rfl, hj, rfl, hm1, hm2, hB4, o4, hlm⟩ := hrel
        clear c0 f0 l0 z3 o3 hB3 hbk
        have z3 := hB4.size
        have c0 := o4.cell
        have f0 := o4.fro
        have l0 := o4.lt
        by_cases hlt4 : j < n
        · have hlt' : (j : Int) < n := by omega
          have hai : l[j]? = some (l[j]'(by rw [HL.out]; exact hlt4)) := List.getElem?_eq_getElem _
          have hx := hN.out _ (List.mem_of_getElem? hai)
          have hxd := whole_dvd (brk_of hbr (List.mem_of_getElem? hai))
          have hx0 := zero_of hz0.out (List.mem_of_getElem? hai)
          have hdr := drop_cell hai
          have HAi : Hid _ := hai
          revert hx hxd hx0 hdr HAi
          generalize (l[j]'(by rw [HL.out]; exact hlt4)) = x
          intro hx hxd hx0 hdr HAi
          clear hai
          have x0 := (HB.out.keep hB4).at HAi.out
          have hsx := fun w1 => dsize_any x w1 hx
          have hsn : 0 < sz x := by unfold sz; omega
          have hsm : sz x ≤ 9223372036854775807 := (sz_in hx).2
          have hsd : 10000 ≤ sz x := by unfold sz; omega
          have hst : Hid (lcmU 1 l = if m ≤ 922337203685477 / (sz x / 10000 / gcdI m (sz x / 10000)) then lcmU (m * (sz x / 10000 / gcdI m (sz x / 10000))) (l.drop (j + 1)) else none) := by
            have q := hlm.out
            rw [hdr] at q
            exact q.symm
          obtain ⟨u, hu⟩ : ∃ u, sz x / 10000 = u := ⟨_, rfl⟩
          have hu2 : (sz x).tdiv 10000 = u := by rw [Int.tdiv_eq_ediv_of_nonneg (by omega)]; exact hu
          have hu0 : 0 < u := by omega
          have hu1 : u ≤ 922337203685477 := by omega
          have huw : u % 18446744073709551616 = u := by omega
          rw [hu] at hst
          clear hlm hdr hxd hx0
          generalize sz x = sx at hsx hu hu2 hsn hsm hsd
          have hgc := fun w1 => dgcd_any m u w1 ⟨by omega, by omega⟩ ⟨by omega, by omega⟩
          obtain ⟨g1, g2, k1, k2⟩ := lcm_u hm1 hm2 hu0 hu1
          generalize gcdI m u = g at hgc g1 g2 k1 k2 hst
          obtain ⟨k, hk⟩ : ∃ k, u / g = k := ⟨_, rfl⟩
          have hk3 : u.tdiv g = k := by rw [Int.tdiv_eq_ediv_of_nonneg (by omega)]; exact hk
          rw [hk] at hst k1 k2
          have hkw : k % 18446744073709551616 = k := by omega
          have hg0 : (g == 0) = false := by simp; omega
          have hk0 : (k == 0) = false := by simp; omega
          obtain ⟨d, hd⟩ : ∃ d : Int, 922337203685477 / k = d := ⟨_, rfl⟩
          have hd2 : (922337203685477 : Int).tdiv k = d := by rw [Int.tdiv_eq_ediv_of_nonneg (by decide)]; exact hd
          have hd3 : 0 ≤ d := by rw [← hd]; exact Int.ediv_nonneg (by decide) (by omega)
          have hd4 : d ≤ 922337203685477 := by rw [← hd]; exact Int.ediv_le_self _ (by decide)
          have hdw : d % 18446744073709551616 = d := by omega
          by_cases hmd : m ≤ d
          · have hmk : Hid (m * k ≤ 922337203685477) := mul_dv k1 (by rw [hd]; exact hmd)
            have hmp : Hid (0 < m * k) := Int.mul_pos hm1 k1
            have hst2 : Hid (lcmU 1 l = lcmU (m * k) (l.drop (j + 1))) := by
              have q := hst.out
              rw [hd, if_pos hmd] at q
              exact q
            obtain ⟨M, hM⟩ : ∃ M, m * k = M := ⟨_, rfl⟩
            rw [hM] at hmk hmp hst2
            have hMw : M % 18446744073709551616 = M := by have := hmk.out; have := hmp.out; omega
            have hng : ¬ d < m := by omega
            clear hst
            go_wp2_with (first | (go_at_call 35; refine (hsx _).mono ?_; rintro e w5 ⟨rfl, e5⟩; rw [e5]; clear e5 w5) | (go_at_call 34; refine (hgc _).mono ?_; rintro e w5 ⟨rfl, e5⟩; rw [e5]; clear e5 w5))
            exact ⟨⟨j + 1, M, by go_num, by omega, by first | rfl | rw [hM], hmp.out, hmk.out, by with_reducible (repeat' first | assumption | exact Below.refl _ _ | refine Below.drew ?_ | refine bdrewN ?_ _ | refine Below.setCell ?_ (by first | exact Nat.le_refl _ | (simp; done) | (simp; omega) | omega) _ | refine Below.alloc ?_ (by first | exact Nat.le_refl _ | (simp; done) | (simp; omega) | omega) _), by with_reducible (repeat' first | assumption | refine Own.drew ?_ | refine Own.drewN ?_ _ | (refine Own.at ?_; first | rfl | (simp; done)) | refine Own.past ?_ _), hst2.out.symm⟩, by simp [intOf]; omega⟩
          · have hst2 : Hid (lcmU 1 l = none) := by
              have q := hst.out
              rw [hd, if_neg hmd] at q
              exact q
            have hng : d < m := by omega
            clear hst
            go_wp2_with (first | (go_at_call 35; refine (hsx _).mono ?_; rintro e w5 ⟨rfl, e5⟩; rw [e5]; clear e5 w5) | (go_at_call 34; refine (hgc _).mono ?_; rintro e w5 ⟨rfl, e5⟩; rw [e5]; clear e5 w5) | (go_at_call 14; refine (derr_ok _ _ (by decide) (by decide)).mono ?_; rintro e wa ⟨rfl, hbwa⟩; have hBwa : Below w.heap.size w wa := bup (by with_reducible (repeat' first | assumption | exact Below.refl _ _ | refine Below.drew ?_ | refine bdrewN ?_ _ | refine Below.setCell ?_ (by first | exact Nat.le_refl _ | (simp; done) | (simp; omega) | omega) _ | refine Below.alloc ?_ (by first | exact Nat.le_refl _ | (simp; done) | (simp; omega) | omega) _)) hbwa; have zwa := hBwa.size; have o0wa : Own wa (w.heap.size) #[.int .i64 0, .int .i64 0, .string ⟨#[]⟩, .bool false, .int .i64 0] := Own.keep (by with_reducible (repeat' first | assumption | refine Own.drew ?_ | refine Own.drewN ?_ _ | (refine Own.at ?_; first | rfl | (simp; done)) | refine Own.past ?_ _)) hbwa; have c0 := o0wa.cell; have f0 := o0wa.fro; have l0 := o0wa.lt))
            exact bodyPost_ret (v := (.agg #[.int .i64 (4), .int .i64 (0), .string ⟨#[]⟩, .bool false, .int .i64 (2)])) (by simp [results, Tryz.results17, go_sem, c0, f0, l0]) rfl ⟨by rw [hst2.out]; rfl, by with_reducible (repeat' first | assumption | exact Below.refl _ _ | refine Below.drew ?_ | refine bdrewN ?_ _ | refine Below.setCell ?_ (by first | exact Nat.le_refl _ | (simp; done) | (simp; omega) | omega) _ | refine Below.alloc ?_ (by first | exact Nat.le_refl _ | (simp; done) | (simp; omega) | omega) _)⟩
        · have hlt' : ¬ (j : Int) < n := by omega
          have hil2 : l.drop j = [] := List.drop_eq_nil_of_le (by rw [HL.out]; omega)
          have hst2 : Hid (lcmU 1 l = some m) := by have q := hlm.out; rw [hil2] at q; exact q.symm
          have hwh := fun w1 => dwhole_f m w1 (by omega) hm2
          go_wp2_with (go_at_call 36; refine (hwh _).mono ?_; rintro e wa ⟨rfl, hbwa⟩; have hBwa : Below w.heap.size w wa := bup (by with_reducible (repeat' first | assumption | exact Below.refl _ _ | refine Below.drew ?_ | refine bdrewN ?_ _ | refine Below.setCell ?_ (by first | exact Nat.le_refl _ | (simp; done) | (simp; omega) | omega) _ | refine Below.alloc ?_ (by first | exact Nat.le_refl _ | (simp; done) | (simp; omega) | omega) _)) hbwa; have zwa := hBwa.size; have o0wa : Own wa (w.heap.size) #[.int .i64 0, .int .i64 0, .string ⟨#[]⟩, .bool false, .int .i64 0] := Own.keep (by with_reducible (repeat' first | assumption | refine Own.drew ?_ | refine Own.drewN ?_ _ | (refine Own.at ?_; first | rfl | (simp; done)) | refine Own.past ?_ _)) hbwa; have c0 := o0wa.cell; have f0 := o0wa.fro; have l0 := o0wa.lt)
          exact bodyPost_ret (v := (.agg #[.int .i64 (1), .int .i64 (m * 10000), .string ⟨#[]⟩, .bool false, .int .i64 (0)])) (by simp [results, Tryz.results17, go_sem, c0, f0, l0]) rfl ⟨by rw [hst2.out]; rfl, by with_reducible (repeat' first | assumption | exact Below.refl _ _ | refine Below.drew ?_ | refine bdrewN ?_ _ | refine Below.setCell ?_ (by first | exact Nat.le_refl _ | (simp; done) | (simp; omega) | omega) _ | refine Below.alloc ?_ (by first | exact Nat.le_refl _ | (simp; done) | (simp; omega) | omega) _)⟩
end Go.Proofs.YtfpbcokfianjaaaGreat
