/- The contracts of slices.IndexFunc and slices.ContainsFunc at numbers with nums.broken, of nums.common and greatestDivisor. New memory alone is made. The condition: numbers that may be. · The contract of nums.greatestDivisor: of one to 16 numbers that may be. New memory alone is made. -/
import Derived.Test.YtfpbcokfianjaaaGreatQWholeNT6
namespace Go.Proofs.YtfpbcokfianjaaaGreat
open Go.RowKit
set_option linter.all false
def Ins (l : List Int) : Prop := ∀ x ∈ l, In x
def brk (x : Int) : Bool := !wholeOk x
set_option maxRecDepth 100000 in
theorem ixn_any (w : World) (b n : Nat) (l : List Int) (hb : NB w b l) (hn : l.length = n) (hN : Hid (Ins l)) (h16 : n ≤ 16) : Calls Tryz.prog 117 #[.slice (some ⟨b, 0, none⟩) n n, (.func (.func 97) #[] #[])] w fun e w' => (∃ r : Int, e = .returned (.int .i64 r) ∧ decide (0 ≤ r) = l.any brk) ∧ Below w.heap.size w w' := by
  have mixed : Tryz.prog.follows .mixedOrders = true := by kernel_rfl
  have hla := hb.lt
  have HB : Hid _ := hb
  have HL : Hid (l.length = n) := hn
  clear hb hn
  go_enter Tryz.func117, Tryz.ntmps117
  go_wp2
  go_loopw [8] (fun v w' => ∃ i : Nat, v = .int .i64 i ∧ i ≤ n ∧ Hid ((l.take i).any brk = false) ∧ ∃ m, w' = w.drewN m) (fun v _ => n - (intOf v).toNat)
  case atStart => exact ⟨0, rfl, by omega, rfl, 0, rfl⟩
  case round =>
    obtain ⟨i, rfl, hi, htk, m, rfl⟩ := hrel
    by_cases hlt : i < n
    · have hlt' : (i : Int) < n := by omega
      have hai : l[i]? = some (l[i]'(by rw [HL.out]; exact hlt)) := List.getElem?_eq_getElem _
      have hx := hN.out _ (List.mem_of_getElem? hai)
      have HAi : Hid _ := hai
      revert hx HAi
      generalize (l[i]'(by rw [HL.out]; exact hlt)) = x
      intro hx HAi
      clear hai
      have x0 := HB.out.at HAi.out
      cases hs : wholeOk x
      · have HS : Hid (brk x = true) := by rw [brk, hs]; rfl
        go_wp2_with (go_at_call 97; refine (broken_any x _ hx.i64).mono ?_; rintro e w1 ⟨rfl, rfl⟩; rw [hs])
        go_ret
        exact ⟨⟨_, rfl, by rw [any_at HAi.out HS.out]; simp⟩, by with_reducible (repeat' first | assumption | exact Below.refl _ _ | refine Below.drew ?_ | refine bdrewN ?_ _ | refine Below.setCell ?_ (by first | exact Nat.le_refl _ | (simp; done) | (simp; omega) | omega) _ | refine Below.alloc ?_ (by first | exact Nat.le_refl _ | (simp; done) | (simp; omega) | omega) _)⟩
      · have HS : Hid (brk x = false) := by rw [brk, hs]; rfl
        go_wp2_with (go_at_call 97; refine (broken_any x _ hx.i64).mono ?_; rintro e w1 ⟨rfl, rfl⟩; rw [hs])
        exact ⟨⟨i + 1, by go_num, by omega, any_take HAi.out htk.out HS.out, _, rfl⟩, by simp [intOf]; omega⟩
    · have hlt' : ¬ (i : Int) < n := by omega
      go_wp2
      go_ret
      exact ⟨⟨_, rfl, by rw [any_all (by rw [HL.out]; omega) htk.out]; rfl⟩, by with_reducible (repeat' first | assumption | exact Below.refl _ _ | refine Below.drew ?_ | refine bdrewN ?_ _ | refine Below.setCell ?_ (by first | exact Nat.le_refl _ | (simp; done) | (simp; omega) | omega) _ | refine Below.alloc ?_ (by first | exact Nat.le_refl _ | (simp; done) | (simp; omega) | omega) _)⟩
theorem contn_any (w : World) (b n : Nat) (l : List Int) (hb : NB w b l) (hn : l.length = n) (hN : Hid (Ins l)) (h16 : n ≤ 16) : Calls Tryz.prog 96 #[.slice (some ⟨b, 0, none⟩) n n, (.func (.func 97) #[] #[])] w fun e w' => e = .returned (.bool (l.any brk)) ∧ Below w.heap.size w w' := by
  go_enter Tryz.func96, Tryz.ntmps96
  go_wp2_with (go_at_call 117; refine (ixn_any _ _ _ _ hb hn hN h16).mono ?_; rintro e w1 ⟨⟨r, rfl, hr⟩, hb1⟩)
  go_ret
  exact ⟨retBl (by first | exact hr | (rw [← hr])), hb1⟩
/-- The greatest number that divides both. -/
def gcdI (a b : Int) : Int := (Nat.gcd a.natAbs b.natAbs : Nat)
theorem gcd_step (a b : Int) : gcdI b (a.tmod b) = gcdI a b := by
  unfold gcdI
  rw [Int.natAbs_tmod, Nat.gcd_comm a.natAbs, Nat.gcd_rec b.natAbs a.natAbs, Nat.gcd_comm]
theorem gcd_zero (a : Int) : gcdI a 0 = sz a := by unfold gcdI sz; simp
theorem tmod_in {a b : Int} (hb : In b) (h0 : b ≠ 0) : In (a.tmod b) ∧ (a.tmod b).natAbs < b.natAbs := by
  have h := tmod_bd a b h0
  obtain ⟨h1, h2⟩ := hb
  refine ⟨⟨?_, ?_⟩, h⟩ <;> omega
set_option maxRecDepth 100000 in
theorem common_any (a b : Int) (w : World) (ha : In a) (hb : In b) : Calls Tryz.prog 98 #[.int .i64 a, .int .i64 b] w fun e w' => e = .returned (.int .i64 (gcdI a b)) ∧ Below w.heap.size w w' := by
  have mixed : Tryz.prog.follows .mixedOrders = true := by kernel_rfl
  go_enter Tryz.func98, Tryz.ntmps98
  go_wp2
  go_loopw [0, 1] (fun v u w' => ∃ x y : Int, v = .int .i64 x ∧ u = .int .i64 y ∧ Hid (In x) ∧ Hid (In y) ∧ Hid (gcdI x y = gcdI a b) ∧ Below w.heap.size w w') (fun _ u _ => (intOf u).natAbs)
  case atStart => exact ⟨a, b, rfl, rfl, ha, hb, rfl, Below.refl _ _⟩
  case round =>
    obtain ⟨x, y, rfl, rfl, hx, hy, hg, hB3⟩ := hrel
    by_cases h0 : y = 0
    · subst h0
      go_wp2_with (go_at_call 84; refine (nsize_any _ _ hx.out).mono ?_; rintro e w1 ⟨rfl, rfl⟩)
      go_ret
      exact ⟨ret1 (by rw [← hg.out, gcd_zero]), by with_reducible (repeat' first | assumption | exact Below.refl _ _ | refine Below.drew ?_ | refine bdrewN ?_ _ | refine Below.setCell ?_ (by first | exact Nat.le_refl _ | (simp; done) | (simp; omega) | omega) _ | refine Below.alloc ?_ (by first | exact Nat.le_refl _ | (simp; done) | (simp; omega) | omega) _)⟩
    · have hz : (y != 0) = true := by simp; exact h0
      have hz2 : (y == 0) = false := by simp; exact h0
      have hr := tmod_in (a := x) hy.out h0
      have hst : Hid _ := gcd_step x y
      revert hr hst
      generalize hgr : x.tmod y = r
      intro hr hst
      have hw : wrap64 r = r := by obtain ⟨⟨h1, h2⟩, _⟩ := hr; unfold wrap64; omega
      have HR : Hid _ := hr
      clear hr
      go_wp2
      go_quiet (fail)
      go_wp2
      exact ⟨⟨y, r, rfl, rfl, hy, HR.out.1, (hst.out.trans hg.out), by with_reducible (repeat' first | assumption | exact Below.refl _ _ | refine Below.drew ?_ | refine bdrewN ?_ _ | refine Below.setCell ?_ (by first | exact Nat.le_refl _ | (simp; done) | (simp; omega) | omega) _ | refine Below.alloc ?_ (by first | exact Nat.le_refl _ | (simp; done) | (simp; omega) | omega) _)⟩, HR.out.2⟩
end Go.Proofs.YtfpbcokfianjaaaGreat
namespace Go.Proofs.YtfpbcokfianjaaaGreat
open Go.RowKit
set_option linter.all false
/-- What divides all. -/
def gcdL (l : List Int) : Int := l.foldl gcdI 0
theorem gcdL_take {l : List Int} {i : Nat} {x : Int} (h : l[i]? = some x) : gcdL (l.take (i + 1)) = gcdI (gcdL (l.take i)) x := by
  unfold gcdL; rw [List.take_succ, h, Option.toList_some, List.foldl_append]; rfl
theorem gcdI_in {a b : Int} (ha : In a) (hb : In b) : In (gcdI a b) := by
  unfold gcdI
  obtain ⟨h1, h2⟩ := ha
  obtain ⟨h3, h4⟩ := hb
  by_cases h0 : a.natAbs = 0
  · rw [h0, Nat.gcd_zero_left]; constructor <;> omega
  · have := Nat.gcd_le_left b.natAbs (Nat.pos_of_ne_zero h0)
    constructor <;> omega
theorem gcdL_in : ∀ {l : List Int} {a : Int}, In a → Ins l → In (l.foldl gcdI a)
  | [], _, ha, _ => ha
  | x :: l, a, ha, hl => gcdL_in (l := l) (a := gcdI a x) (gcdI_in ha (hl x (List.mem_cons_self ..))) (fun y hy => hl y (List.mem_cons_of_mem _ hy))
theorem in0 : In 0 := ⟨by decide, by decide⟩
theorem gcdL_in' {l : List Int} (h : Ins l) (i : Nat) : In (gcdL (l.take i)) := gcdL_in in0 (fun x hx => h x (List.mem_of_mem_take hx))
theorem gcd_no (w : World) (b n : Nat) (l : List Int) (hb : NB w b l) (hn : l.length = n) (hN : Hid (Ins l)) (h16 : n ≤ 16) (hbr : l.any brk = true) : Calls Tryz.prog 60 #[.slice (some ⟨b, 0, none⟩) n n] w fun e w' => e = .returned (errV 8) ∧ Below w.heap.size w w' := by
  unfold errV
  have hlt := hb.lt
  go_enter Tryz.func60, Tryz.ntmps60
  go_wp2_with (first | (go_at_call 96; refine (contn_any _ _ _ _ (hb.keep (by with_reducible (repeat' first | assumption | exact Below.refl _ _ | refine Below.drew ?_ | refine bdrewN ?_ _ | refine Below.setCell ?_ (by first | exact Nat.le_refl _ | (simp; done) | (simp; omega) | omega) _ | refine Below.alloc ?_ (by first | exact Nat.le_refl _ | (simp; done) | (simp; omega) | omega) _))) hn hN h16).mono ?_; rintro e w1 ⟨rfl, hb⟩; have hB : Below w.heap.size w w1 := bup (by with_reducible (repeat' first | assumption | exact Below.refl _ _ | refine Below.drew ?_ | refine bdrewN ?_ _ | refine Below.setCell ?_ (by first | exact Nat.le_refl _ | (simp; done) | (simp; omega) | omega) _ | refine Below.alloc ?_ (by first | exact Nat.le_refl _ | (simp; done) | (simp; omega) | omega) _)) hb; have o0 : Own w1 (w.heap.size) #[.int .i64 0, .int .i64 0, .string ⟨#[]⟩, .bool false, .int .i64 0] := Own.keep (by with_reducible (repeat' first | assumption | refine Own.drew ?_ | refine Own.drewN ?_ _ | (refine Own.at ?_; first | rfl | (simp; done)) | refine Own.past ?_ _)) hb; have c0 := o0.cell; have f0 := o0.fro; have l0 := o0.lt; rw [hbr]) | (go_at_call 9; refine (err_ok _ _ (by decide) (by decide)).mono ?_; rintro e w1 ⟨rfl, hb⟩; have hB : Below w.heap.size w w1 := bup (by with_reducible (repeat' first | assumption | exact Below.refl _ _ | refine Below.drew ?_ | refine bdrewN ?_ _ | refine Below.setCell ?_ (by first | exact Nat.le_refl _ | (simp; done) | (simp; omega) | omega) _ | refine Below.alloc ?_ (by first | exact Nat.le_refl _ | (simp; done) | (simp; omega) | omega) _)) hb; have o0 : Own w1 (w.heap.size) #[.int .i64 0, .int .i64 0, .string ⟨#[]⟩, .bool false, .int .i64 0] := Own.keep (by with_reducible (repeat' first | assumption | refine Own.drew ?_ | refine Own.drewN ?_ _ | (refine Own.at ?_; first | rfl | (simp; done)) | refine Own.past ?_ _)) hb; have c0 := o0.cell; have f0 := o0.fro; have l0 := o0.lt))
  exact bodyPost_ret (v := (.agg #[.int .i64 (4), .int .i64 (0), .string ⟨#[]⟩, .bool false, .int .i64 (8)])) (by simp [results, Tryz.results60, go_sem, c0, f0, l0]) rfl ⟨rfl, by with_reducible (repeat' first | assumption | exact Below.refl _ _ | refine Below.drew ?_ | refine bdrewN ?_ _ | refine Below.setCell ?_ (by first | exact Nat.le_refl _ | (simp; done) | (simp; omega) | omega) _ | refine Below.alloc ?_ (by first | exact Nat.le_refl _ | (simp; done) | (simp; omega) | omega) _)⟩
set_option maxRecDepth 100000 in
set_option maxHeartbeats 1000000 in
theorem gcd_ok (w : World) (b n : Nat) (l : List Int) (hb : NB w b l) (hn : l.length = n) (hN : Hid (Ins l)) (h16 : n ≤ 16) (hbr : l.any brk = false) : Calls Tryz.prog 60 #[.slice (some ⟨b, 0, none⟩) n n] w fun e w' => e = .returned (numV (gcdL l)) ∧ Below w.heap.size w w' := by
  unfold numV
  have mixed : Tryz.prog.follows .mixedOrders = true := by kernel_rfl
  have hlt := hb.lt
  have HB : Hid _ := hb
  have HL : Hid (l.length = n) := hn
  clear hb hn
  go_enter Tryz.func60, Tryz.ntmps60
  go_wp2_with (go_at_call 96; refine (contn_any _ _ _ _ (HB.out.keep (by with_reducible (repeat' first | assumption | exact Below.refl _ _ | refine Below.drew ?_ | refine bdrewN ?_ _ | refine Below.setCell ?_ (by first | exact Nat.le_refl _ | (simp; done) | (simp; omega) | omega) _ | refine Below.alloc ?_ (by first | exact Nat.le_refl _ | (simp; done) | (simp; omega) | omega) _))) HL.out hN h16).mono ?_; rintro e w1 ⟨rfl, hb⟩; have hB : Below w.heap.size w w1 := bup (by with_reducible (repeat' first | assumption | exact Below.refl _ _ | refine Below.drew ?_ | refine bdrewN ?_ _ | refine Below.setCell ?_ (by first | exact Nat.le_refl _ | (simp; done) | (simp; omega) | omega) _ | refine Below.alloc ?_ (by first | exact Nat.le_refl _ | (simp; done) | (simp; omega) | omega) _)) hb; have o0 : Own w1 (w.heap.size) #[.int .i64 0, .int .i64 0, .string ⟨#[]⟩, .bool false, .int .i64 0] := Own.keep (by with_reducible (repeat' first | assumption | refine Own.drew ?_ | refine Own.drewN ?_ _ | (refine Own.at ?_; first | rfl | (simp; done)) | refine Own.past ?_ _)) hb; have c0 := o0.cell; have f0 := o0.fro; have l0 := o0.lt; rw [hbr])
  go_loopw [3, 11] (fun u v w' => ∃ i : Nat, v = .int .i64 i ∧ i ≤ n ∧ u = .int .i64 (gcdL (l.take i)) ∧ Below w.heap.size w w' ∧ Own w' w.heap.size #[.int .i64 0, .int .i64 0, .string ⟨#[]⟩, .bool false, .int .i64 0]) (fun _ v _ => n - (intOf v).toNat)
  case atStart => exact ⟨0, rfl, by omega, rfl, by with_reducible (repeat' first | assumption | exact Below.refl _ _ | refine Below.drew ?_ | refine bdrewN ?_ _ | refine Below.setCell ?_ (by first | exact Nat.le_refl _ | (simp; done) | (simp; omega) | omega) _ | refine Below.alloc ?_ (by first | exact Nat.le_refl _ | (simp; done) | (simp; omega) | omega) _), by with_reducible (repeat' first | assumption | refine Own.drew ?_ | refine Own.drewN ?_ _ | (refine Own.at ?_; first | rfl | (simp; done)) | refine Own.past ?_ _)⟩
  case round =>
    obtain ⟨i, rfl, hi, rfl, hB3, o3⟩ := hrel
    clear o0 c0 f0 l0
    have z3 := hB3.size
    have c0 := o3.cell
    have f0 := o3.fro
    have l0 := o3.lt
    have hgi := gcdL_in' hN.out i
    by_cases hlt3 : i < n
    · have hlt' : (i : Int) < n := by omega
      have hai : l[i]? = some (l[i]'(by rw [HL.out]; exact hlt3)) := List.getElem?_eq_getElem _
      have hx := hN.out _ (List.mem_of_getElem? hai)
      have HAi : Hid _ := hai
      revert hx HAi
      generalize (l[i]'(by rw [HL.out]; exact hlt3)) = x
      intro hx HAi
      clear hai
      have x0 := (HB.out.keep hB3).at HAi.out
      have hg2 := (gcdL_take HAi.out).symm
      go_wp2_with (go_at_call 98; refine (common_any _ _ _ hgi hx).mono ?_; rintro e w1 ⟨rfl, hb⟩; have hB1 : Below w.heap.size w w1 := bup (by with_reducible (repeat' first | assumption | exact Below.refl _ _ | refine Below.drew ?_ | refine bdrewN ?_ _ | refine Below.setCell ?_ (by first | exact Nat.le_refl _ | (simp; done) | (simp; omega) | omega) _ | refine Below.alloc ?_ (by first | exact Nat.le_refl _ | (simp; done) | (simp; omega) | omega) _)) hb; have o1 : Own w1 w.heap.size #[.int .i64 0, .int .i64 0, .string ⟨#[]⟩, .bool false, .int .i64 0] := Own.keep (by with_reducible (repeat' first | assumption | refine Own.drew ?_ | refine Own.drewN ?_ _ | (refine Own.at ?_; first | rfl | (simp; done)) | refine Own.past ?_ _)) hb; rw [hg2])
      exact ⟨⟨i + 1, by go_num, by omega, rfl, by with_reducible (repeat' first | assumption | exact Below.refl _ _ | refine Below.drew ?_ | refine bdrewN ?_ _ | refine Below.setCell ?_ (by first | exact Nat.le_refl _ | (simp; done) | (simp; omega) | omega) _ | refine Below.alloc ?_ (by first | exact Nat.le_refl _ | (simp; done) | (simp; omega) | omega) _), by with_reducible (repeat' first | assumption | refine Own.drew ?_ | refine Own.drewN ?_ _ | (refine Own.at ?_; first | rfl | (simp; done)) | refine Own.past ?_ _)⟩, by simp [intOf]; omega⟩
    · have hlt' : ¬ (i : Int) < n := by omega
      have hil : i = l.length := by rw [HL.out]; omega
      have hgl : gcdL (l.take i) = gcdL l := by rw [hil, List.take_length]
      rw [hgl] at hgi ⊢
      go_wp2_with (go_at_call 83; refine (num_t _ _ hgi.i64 (by have := hgi.1; omega)).mono ?_; rintro e w1 ⟨rfl, hb⟩; have hB : Below w.heap.size w w1 := bup (by with_reducible (repeat' first | assumption | exact Below.refl _ _ | refine Below.drew ?_ | refine bdrewN ?_ _ | refine Below.setCell ?_ (by first | exact Nat.le_refl _ | (simp; done) | (simp; omega) | omega) _ | refine Below.alloc ?_ (by first | exact Nat.le_refl _ | (simp; done) | (simp; omega) | omega) _)) hb; have o0 : Own w1 (w.heap.size) #[.int .i64 0, .int .i64 0, .string ⟨#[]⟩, .bool false, .int .i64 0] := Own.keep (by with_reducible (repeat' first | assumption | refine Own.drew ?_ | refine Own.drewN ?_ _ | (refine Own.at ?_; first | rfl | (simp; done)) | refine Own.past ?_ _)) hb; have c0 := o0.cell; have f0 := o0.fro; have l0 := o0.lt)
      exact bodyPost_ret (v := (.agg #[.int .i64 (1), .int .i64 (gcdL l), .string ⟨#[]⟩, .bool false, .int .i64 (0)])) (by simp [results, Tryz.results60, go_sem, c0, f0, l0]) rfl ⟨rfl, by with_reducible (repeat' first | assumption | exact Below.refl _ _ | refine Below.drew ?_ | refine bdrewN ?_ _ | refine Below.setCell ?_ (by first | exact Nat.le_refl _ | (simp; done) | (simp; omega) | omega) _ | refine Below.alloc ?_ (by first | exact Nat.le_refl _ | (simp; done) | (simp; omega) | omega) _)⟩
end Go.Proofs.YtfpbcokfianjaaaGreat
