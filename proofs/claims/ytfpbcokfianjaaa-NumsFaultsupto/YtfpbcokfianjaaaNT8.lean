/- The contract of nums.greatestDivisor: of one to 16 numbers that may be. New memory alone is made. -/
import Derived.Test.YtfpbcokfianjaaaNT7
namespace Go.Proofs.Ytfpbcokfianjaaa
open Go.RowKit
set_option linter.all false
/-- What divides all. -/
def gcdL (l : List Int) : Int := l.foldl gcdI 0
theorem gcdL_take {l : List Int} {i : Nat} {x : Int} (h : l[i]? = some x) : gcdL (l.take (i + 1)) = gcdI (gcdL (l.take i)) x := by
  unfold gcdL; rw [List.take_succ, h, Option.toList_some, List.foldl_append]; rfl
theorem gcdI_in {a b : Int} (ha : In a) (hb : In b) : In (gcdI a b) := by
  unfold gcdI
  obtain ⟨h1, h2⟩ := ha
  obtain ⟨h3, h4⟩ := hb
  by_cases h0 : a.natAbs = 0
  · rw [h0, Nat.gcd_zero_left]; constructor <;> omega
  · have := Nat.gcd_le_left b.natAbs (Nat.pos_of_ne_zero h0)
    constructor <;> omega
theorem gcdL_in : ∀ {l : List Int} {a : Int}, In a → Ins l → In (l.foldl gcdI a)
  | [], _, ha, _ => ha
  | x :: l, a, ha, hl => gcdL_in (l := l) (a := gcdI a x) (gcdI_in ha (hl x (List.mem_cons_self ..))) (fun y hy => hl y (List.mem_cons_of_mem _ hy))
theorem in0 : In 0 := ⟨by decide, by decide⟩
theorem gcdL_in' {l : List Int} (h : Ins l) (i : Nat) : In (gcdL (l.take i)) := gcdL_in in0 (fun x hx => h x (List.mem_of_mem_take hx))
theorem gcd_no (w : World) (b n : Nat) (l : List Int) (hb : NB w b l) (hn : l.length = n) (hN : Hid (Ins l)) (h16 : n ≤ 16) (hbr : l.any brk = true) : Calls Try.prog 44 #[.slice (some ⟨b, 0, none⟩) n n] w fun e w' => e = .returned (errV 8) ∧ Below w.heap.size w w' := by
  unfold errV
  have hlt := hb.lt
  go_enter Try.func44, Try.ntmps44
  go_wp2_with (first | (go_at_call 67; refine (contn_any _ _ _ _ (hb.keep (by with_reducible (repeat' first | assumption | exact Below.refl _ _ | refine Below.drew ?_ | refine bdrewN ?_ _ | refine Below.setCell ?_ (by first | exact Nat.le_refl _ | (simp; done) | (simp; omega) | omega) _ | refine Below.alloc ?_ (by first | exact Nat.le_refl _ | (simp; done) | (simp; omega) | omega) _))) hn hN h16).mono ?_; rintro e w1 ⟨rfl, hb⟩; have hB : Below w.heap.size w w1 := bup (by with_reducible (repeat' first | assumption | exact Below.refl _ _ | refine Below.drew ?_ | refine bdrewN ?_ _ | refine Below.setCell ?_ (by first | exact Nat.le_refl _ | (simp; done) | (simp; omega) | omega) _ | refine Below.alloc ?_ (by first | exact Nat.le_refl _ | (simp; done) | (simp; omega) | omega) _)) hb; have o0 : Own w1 (w.heap.size) #[.int .i64 0, .int .i64 0, .string ⟨#[]⟩, .bool false, .int .i64 0] := Own.keep (by with_reducible (repeat' first | assumption | refine Own.drew ?_ | refine Own.drewN ?_ _ | (refine Own.at ?_; first | rfl | (simp; done)) | refine Own.past ?_ _)) hb; have c0 := o0.cell; have f0 := o0.fro; have l0 := o0.lt; rw [hbr]) | (go_at_call 23; refine (err_ok _ _ (by decide) (by decide)).mono ?_; rintro e w1 ⟨rfl, hb⟩; have hB : Below w.heap.size w w1 := bup (by with_reducible (repeat' first | assumption | exact Below.refl _ _ | refine Below.drew ?_ | refine bdrewN ?_ _ | refine Below.setCell ?_ (by first | exact Nat.le_refl _ | (simp; done) | (simp; omega) | omega) _ | refine Below.alloc ?_ (by first | exact Nat.le_refl _ | (simp; done) | (simp; omega) | omega) _)) hb; have o0 : Own w1 (w.heap.size) #[.int .i64 0, .int .i64 0, .string ⟨#[]⟩, .bool false, .int .i64 0] := Own.keep (by with_reducible (repeat' first | assumption | refine Own.drew ?_ | refine Own.drewN ?_ _ | (refine Own.at ?_; first | rfl | (simp; done)) | refine Own.past ?_ _)) hb; have c0 := o0.cell; have f0 := o0.fro; have l0 := o0.lt))
  exact bodyPost_ret (v := (.agg #[.int .i64 (4), .int .i64 (0), .string ⟨#[]⟩, .bool false, .int .i64 (8)])) (by simp [results, Try.results44, go_sem, c0, f0, l0]) rfl ⟨rfl, by with_reducible (repeat' first | assumption | exact Below.refl _ _ | refine Below.drew ?_ | refine bdrewN ?_ _ | refine Below.setCell ?_ (by first | exact Nat.le_refl _ | (simp; done) | (simp; omega) | omega) _ | refine Below.alloc ?_ (by first | exact Nat.le_refl _ | (simp; done) | (simp; omega) | omega) _)⟩
set_option maxRecDepth 100000 in
set_option maxHeartbeats 1000000 in
theorem gcd_ok (w : World) (b n : Nat) (l : List Int) (hb : NB w b l) (hn : l.length = n) (hN : Hid (Ins l)) (h16 : n ≤ 16) (hbr : l.any brk = false) : Calls Try.prog 44 #[.slice (some ⟨b, 0, none⟩) n n] w fun e w' => e = .returned (numV (gcdL l)) ∧ Below w.heap.size w w' := by
  unfold numV
  have mixed : Try.prog.follows .mixedOrders = true := by kernel_rfl
  have hlt := hb.lt
  have HB : Hid _ := hb
  have HL : Hid (l.length = n) := hn
  clear hb hn
  go_enter Try.func44, Try.ntmps44
  go_wp2_with (go_at_call 67; refine (contn_any _ _ _ _ (HB.out.keep (by with_reducible (repeat' first | assumption | exact Below.refl _ _ | refine Below.drew ?_ | refine bdrewN ?_ _ | refine Below.setCell ?_ (by first | exact Nat.le_refl _ | (simp; done) | (simp; omega) | omega) _ | refine Below.alloc ?_ (by first | exact Nat.le_refl _ | (simp; done) | (simp; omega) | omega) _))) HL.out hN h16).mono ?_; rintro e w1 ⟨rfl, hb⟩; have hB : Below w.heap.size w w1 := bup (by with_reducible (repeat' first | assumption | exact Below.refl _ _ | refine Below.drew ?_ | refine bdrewN ?_ _ | refine Below.setCell ?_ (by first | exact Nat.le_refl _ | (simp; done) | (simp; omega) | omega) _ | refine Below.alloc ?_ (by first | exact Nat.le_refl _ | (simp; done) | (simp; omega) | omega) _)) hb; have o0 : Own w1 (w.heap.size) #[.int .i64 0, .int .i64 0, .string ⟨#[]⟩, .bool false, .int .i64 0] := Own.keep (by with_reducible (repeat' first | assumption | refine Own.drew ?_ | refine Own.drewN ?_ _ | (refine Own.at ?_; first | rfl | (simp; done)) | refine Own.past ?_ _)) hb; have c0 := o0.cell; have f0 := o0.fro; have l0 := o0.lt; rw [hbr])
  go_loopw [3, 11] (fun u v w' => ∃ i : Nat, v = .int .i64 i ∧ i ≤ n ∧ u = .int .i64 (gcdL (l.take i)) ∧ Below w.heap.size w w' ∧ Own w' w.heap.size #[.int .i64 0, .int .i64 0, .string ⟨#[]⟩, .bool false, .int .i64 0]) (fun _ v _ => n - (intOf v).toNat)
  case atStart => exact ⟨0, rfl, by omega, rfl, by with_reducible (repeat' first | assumption | exact Below.refl _ _ | refine Below.drew ?_ | refine bdrewN ?_ _ | refine Below.setCell ?_ (by first | exact Nat.le_refl _ | (simp; done) | (simp; omega) | omega) _ | refine Below.alloc ?_ (by first | exact Nat.le_refl _ | (simp; done) | (simp; omega) | omega) _), by with_reducible (repeat' first | assumption | refine Own.drew ?_ | refine Own.drewN ?_ _ | (refine Own.at ?_; first | rfl | (simp; done)) | refine Own.past ?_ _)⟩
  case round =>
    obtain ⟨i, rfl, hi, rfl, hB3, o3⟩ := hrel
    clear o0 c0 f0 l0
    have z3 := hB3.size
    have c0 := o3.cell
    have f0 := o3.fro
    have l0 := o3.lt
    have hgi := gcdL_in' hN.out i
    by_cases hlt3 : i < n
    · have hlt' : (i : Int) < n := by omega
      have hai : l[i]? = some (l[i]'(by rw [HL.out]; exact hlt3)) := List.getElem?_eq_getElem _
      have hx := hN.out _ (List.mem_of_getElem? hai)
      have HAi : Hid _ := hai
      revert hx HAi
      generalize (l[i]'(by rw [HL.out]; exact hlt3)) = x
      intro hx HAi
      clear hai
      have x0 := (HB.out.keep hB3).at HAi.out
      have hg2 := (gcdL_take HAi.out).symm
      go_wp2_with (go_at_call 69; refine (common_any _ _ _ hgi hx).mono ?_; rintro e w1 ⟨rfl, hb⟩; have hB1 : Below w.heap.size w w1 := bup (by with_reducible (repeat' first | assumption | exact Below.refl _ _ | refine Below.drew ?_ | refine bdrewN ?_ _ | refine Below.setCell ?_ (by first | exact Nat.le_refl _ | (simp; done) | (simp; omega) | omega) _ | refine Below.alloc ?_ (by first | exact Nat.le_refl _ | (simp; done) | (simp; omega) | omega) _)) hb; have o1 : Own w1 w.heap.size #[.int .i64 0, .int .i64 0, .string ⟨#[]⟩, .bool false, .int .i64 0] := Own.keep (by with_reducible (repeat' first | assumption | refine Own.drew ?_ | refine Own.drewN ?_ _ | (refine Own.at ?_; first | rfl | (simp; done)) | refine Own.past ?_ _)) hb; rw [hg2])
      exact ⟨⟨i + 1, by go_num, by omega, rfl, by with_reducible (repeat' first | assumption | exact Below.refl _ _ | refine Below.drew ?_ | refine bdrewN ?_ _ | refine Below.setCell ?_ (by first | exact Nat.le_refl _ | (simp; done) | (simp; omega) | omega) _ | refine Below.alloc ?_ (by first | exact Nat.le_refl _ | (simp; done) | (simp; omega) | omega) _), by with_reducible (repeat' first | assumption | refine Own.drew ?_ | refine Own.drewN ?_ _ | (refine Own.at ?_; first | rfl | (simp; done)) | refine Own.past ?_ _)⟩, by simp [intOf]; omega⟩
    · have hlt' : ¬ (i : Int) < n := by omega
      have hil : i = l.length := by rw [HL.out]; omega
      have hgl : gcdL (l.take i) = gcdL l := by rw [hil, List.take_length]
      rw [hgl] at hgi ⊢
      go_wp2_with (go_at_call 54; refine (num_t _ _ hgi.i64 (by have := hgi.1; omega)).mono ?_; rintro e w1 ⟨rfl, hb⟩; have hB : Below w.heap.size w w1 := bup (by with_reducible (repeat' first | assumption | exact Below.refl _ _ | refine Below.drew ?_ | refine bdrewN ?_ _ | refine Below.setCell ?_ (by first | exact Nat.le_refl _ | (simp; done) | (simp; omega) | omega) _ | refine Below.alloc ?_ (by first | exact Nat.le_refl _ | (simp; done) | (simp; omega) | omega) _)) hb; have o0 : Own w1 (w.heap.size) #[.int .i64 0, .int .i64 0, .string ⟨#[]⟩, .bool false, .int .i64 0] := Own.keep (by with_reducible (repeat' first | assumption | refine Own.drew ?_ | refine Own.drewN ?_ _ | (refine Own.at ?_; first | rfl | (simp; done)) | refine Own.past ?_ _)) hb; have c0 := o0.cell; have f0 := o0.fro; have l0 := o0.lt)
      exact bodyPost_ret (v := (.agg #[.int .i64 (1), .int .i64 (gcdL l), .string ⟨#[]⟩, .bool false, .int .i64 (0)])) (by simp [results, Try.results44, go_sem, c0, f0, l0]) rfl ⟨rfl, by with_reducible (repeat' first | assumption | exact Below.refl _ _ | refine Below.drew ?_ | refine bdrewN ?_ _ | refine Below.setCell ?_ (by first | exact Nat.le_refl _ | (simp; done) | (simp; omega) | omega) _ | refine Below.alloc ?_ (by first | exact Nat.le_refl _ | (simp; done) | (simp; omega) | omega) _)⟩
end Go.Proofs.Ytfpbcokfianjaaa
