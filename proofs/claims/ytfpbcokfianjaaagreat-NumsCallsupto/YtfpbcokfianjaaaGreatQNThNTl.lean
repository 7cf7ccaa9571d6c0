/- The contract of nums.leastMultiple: of one to 16 numbers that may be. New memory alone is made. · Every function of the table answers one value that may be, of as many numbers as it takes; what Call answers of any arguments. -/
import Derived.Test.YtfpbcokfianjaaaGreatQMulNTg
import Derived.Test.YtfpbcokfianjaaaGreatQNTjNTk
namespace Go.Proofs.YtfpbcokfianjaaaGreat
open Go.RowKit
set_option linter.all false
/-- The least multiple of m and all of a list, if it may be. -/
def lcmF : Int → List Int → Option Int
  | m, [] => some m
  | m, n :: l => if m / gcdI m n * sz n ≤ 9223372036854775807 then lcmF (m / gcdI m n * sz n) l else none
/-- A whole number above 0. -/
def Wh (m : Int) : Prop := 0 < m ∧ m ≤ 9223372036854775807 ∧ (10000 : Int) ∣ m
theorem gcd_ge {m n : Int} (hm : Wh m) (hn : (10000 : Int) ∣ n) : 10000 ≤ gcdI m n ∧ gcdI m n ∣ m ∧ (10000 : Int) ∣ gcdI m n := by
  obtain ⟨h1, h2, h3⟩ := hm
  have d : 10000 ∣ Nat.gcd m.natAbs n.natAbs := Nat.dvd_gcd (Int.natAbs_dvd_natAbs.2 h3) (Int.natAbs_dvd_natAbs.2 hn)
  have p : 0 < Nat.gcd m.natAbs n.natAbs := Nat.gcd_pos_of_pos_left _ (by omega)
  have := Nat.le_of_dvd p d
  refine ⟨by unfold gcdI; omega, ?_, by unfold gcdI; exact Int.natCast_dvd_natCast.2 d⟩
  unfold gcdI
  exact Int.ofNat_dvd_left.2 (Nat.gcd_dvd_left _ _)
theorem lcm_room {m n : Int} (hm : Wh m) (hn : (10000 : Int) ∣ n) : 0 < m / gcdI m n ∧ m / gcdI m n * 10000 ≤ 9223372036854775807 ∧ m.tdiv (gcdI m n) = m / gcdI m n := by
  obtain ⟨g1, ⟨k, hk⟩, _⟩ := gcd_ge hm hn
  obtain ⟨h1, h2, _⟩ := hm
  generalize gcdI m n = g at *
  have e : m / g = k := by rw [hk]; exact Int.mul_ediv_cancel_left _ (by omega)
  have kp : 0 < k := by
    apply Int.pos_of_mul_pos_right (a := g) <;> omega
  refine ⟨by omega, ?_, Int.tdiv_eq_ediv_of_nonneg (by omega)⟩
  rw [e]
  have : k * 10000 ≤ k * g := Int.mul_le_mul_of_nonneg_left g1 (by omega)
  rw [Int.mul_comm k g] at this
  omega
theorem lcm_wh {m n : Int} (hm : Wh m) (hn : (10000 : Int) ∣ n) (h0 : n ≠ 0) (hp : m / gcdI m n * sz n ≤ 9223372036854775807) : Wh (m / gcdI m n * sz n) := by
  obtain ⟨r1, _, _⟩ := lcm_room hm hn
  have hs : 0 < sz n := by unfold sz; omega
  refine ⟨Int.mul_pos r1 hs, hp, Int.dvd_mul_of_dvd_right ?_⟩
  unfold sz
  exact Int.dvd_natAbs.2 hn
theorem whole_dvd {x : Int} (h : brk x = false) : (10000 : Int) ∣ x := by
  unfold brk wholeOk at h
  simp at h
  exact Int.dvd_of_tmod_eq_zero h.2
theorem whole_of {l : List Int} (h : l.any brk = false) {x : Int} (hx : x ∈ l) : (10000 : Int) ∣ x := by
  refine whole_dvd ?_
  cases hb : brk x
  · rfl
  · have := List.any_eq_true.2 ⟨x, hx, hb⟩
    rw [h] at this; cases this
theorem zero_of {l : List Int} (h : l.any zro = false) {x : Int} (hx : x ∈ l) : x ≠ 0 := by
  rintro rfl
  have := List.any_eq_true.2 ⟨0, hx, (rfl : zro 0 = true)⟩
  rw [h] at this; cases this
theorem drop_cell {l : List Int} {i : Nat} {x : Int} (h : l[i]? = some x) : l.drop i = x :: l.drop (i + 1) := by
  obtain ⟨hi, rfl⟩ := List.getElem?_eq_some_iff.1 h
  exact (List.getElem_cons_drop (h := hi)).symm
theorem lcm_no (w : World) (b n : Nat) (l : List Int) (hb : NB w b l) (hn : l.length = n) (hN : Hid (Ins l)) (h16 : n ≤ 16) (hbr : l.any brk = true) : Calls Tryz.prog 61 #[.slice (some ⟨b, 0, none⟩) n n] w fun e w' => e = .returned (errV 8) ∧ Below w.heap.size w w' := by
  unfold errV
  have hlt := hb.lt
  go_enter Tryz.func61, Tryz.ntmps61
  go_wp2_with (first | (go_at_call 96; refine (contn_any _ _ _ _ (hb.keep (by with_reducible (repeat' first | assumption | exact Below.refl _ _ | refine Below.drew ?_ | refine bdrewN ?_ _ | refine Below.setCell ?_ (by first | exact Nat.le_refl _ | (simp; done) | (simp; omega) | omega) _ | refine Below.alloc ?_ (by first | exact Nat.le_refl _ | (simp; done) | (simp; omega) | omega) _))) hn hN h16).mono ?_; rintro e w1 ⟨rfl, hb⟩; have hB : Below w.heap.size w w1 := bup (by with_reducible (repeat' first | assumption | exact Below.refl _ _ | refine Below.drew ?_ | refine bdrewN ?_ _ | refine Below.setCell ?_ (by first | exact Nat.le_refl _ | (simp; done) | (simp; omega) | omega) _ | refine Below.alloc ?_ (by first | exact Nat.le_refl _ | (simp; done) | (simp; omega) | omega) _)) hb; have o0 : Own w1 (w.heap.size) #[.int .i64 0, .int .i64 0, .string ⟨#[]⟩, .bool false, .int .i64 0] := Own.keep (by with_reducible (repeat' first | assumption | refine Own.drew ?_ | refine Own.drewN ?_ _ | (refine Own.at ?_; first | rfl | (simp; done)) | refine Own.past ?_ _)) hb; have c0 := o0.cell; have f0 := o0.fro; have l0 := o0.lt; rw [hbr]) | (go_at_call 9; refine (err_ok _ _ (by decide) (by decide)).mono ?_; rintro e w1 ⟨rfl, hb⟩; have hB : Below w.heap.size w w1 := bup (by with_reducible (repeat' first | assumption | exact Below.refl _ _ | refine Below.drew ?_ | refine bdrewN ?_ _ | refine Below.setCell ?_ (by first | exact Nat.le_refl _ | (simp; done) | (simp; omega) | omega) _ | refine Below.alloc ?_ (by first | exact Nat.le_refl _ | (simp; done) | (simp; omega) | omega) _)) hb; have o0 : Own w1 (w.heap.size) #[.int .i64 0, .int .i64 0, .string ⟨#[]⟩, .bool false, .int .i64 0] := Own.keep (by with_reducible (repeat' first | assumption | refine Own.drew ?_ | refine Own.drewN ?_ _ | (refine Own.at ?_; first | rfl | (simp; done)) | refine Own.past ?_ _)) hb; have c0 := o0.cell; have f0 := o0.fro; have l0 := o0.lt))
  exact bodyPost_ret (v := (.agg #[.int .i64 (4), .int .i64 (0), .string ⟨#[]⟩, .bool false, .int .i64 (8)])) (by simp [results, Tryz.results61, go_sem, c0, f0, l0]) rfl ⟨rfl, by with_reducible (repeat' first | assumption | exact Below.refl _ _ | refine Below.drew ?_ | refine bdrewN ?_ _ | refine Below.setCell ?_ (by first | exact Nat.le_refl _ | (simp; done) | (simp; omega) | omega) _ | refine Below.alloc ?_ (by first | exact Nat.le_refl _ | (simp; done) | (simp; omega) | omega) _)⟩
theorem lcm_zero (w : World) (b n : Nat) (l : List Int) (hb : NB w b l) (hn : l.length = n) (hN : Hid (Ins l)) (h16 : n ≤ 16) (hbr : l.any brk = false) (hz : l.any zro = true) : Calls Tryz.prog 61 #[.slice (some ⟨b, 0, none⟩) n n] w fun e w' => e = .returned (numV 0) ∧ Below w.heap.size w w' := by
  unfold numV
  have hlt := hb.lt
  go_enter Tryz.func61, Tryz.ntmps61
  go_wp2_with (first | (go_at_call 96; refine (contn_any _ _ _ _ (hb.keep (by with_reducible (repeat' first | assumption | exact Below.refl _ _ | refine Below.drew ?_ | refine bdrewN ?_ _ | refine Below.setCell ?_ (by first | exact Nat.le_refl _ | (simp; done) | (simp; omega) | omega) _ | refine Below.alloc ?_ (by first | exact Nat.le_refl _ | (simp; done) | (simp; omega) | omega) _))) hn hN h16).mono ?_; rintro e wa ⟨rfl, hbwa⟩; have hBwa : Below w.heap.size w wa := bup (by with_reducible (repeat' first | assumption | exact Below.refl _ _ | refine Below.drew ?_ | refine bdrewN ?_ _ | refine Below.setCell ?_ (by first | exact Nat.le_refl _ | (simp; done) | (simp; omega) | omega) _ | refine Below.alloc ?_ (by first | exact Nat.le_refl _ | (simp; done) | (simp; omega) | omega) _)) hbwa; have zwa := hBwa.size; have o0wa : Own wa (w.heap.size) #[.int .i64 0, .int .i64 0, .string ⟨#[]⟩, .bool false, .int .i64 0] := Own.keep (by with_reducible (repeat' first | assumption | refine Own.drew ?_ | refine Own.drewN ?_ _ | (refine Own.at ?_; first | rfl | (simp; done)) | refine Own.past ?_ _)) hbwa; have c0 := o0wa.cell; have f0 := o0wa.fro; have l0 := o0wa.lt; rw [hbr]) | (go_at_call 99; refine (contz_any _ _ _ _ (hb.keep hBwa) hn h16).mono ?_; rintro e wb ⟨rfl, hbwb⟩; have hBwb : Below w.heap.size w wb := bup (by with_reducible (repeat' first | assumption | exact Below.refl _ _ | refine Below.drew ?_ | refine bdrewN ?_ _ | refine Below.setCell ?_ (by first | exact Nat.le_refl _ | (simp; done) | (simp; omega) | omega) _ | refine Below.alloc ?_ (by first | exact Nat.le_refl _ | (simp; done) | (simp; omega) | omega) _)) hbwb; have zwb := hBwb.size; have o0wb : Own wb (w.heap.size) #[.int .i64 0, .int .i64 0, .string ⟨#[]⟩, .bool false, .int .i64 0] := Own.keep (by with_reducible (repeat' first | assumption | refine Own.drew ?_ | refine Own.drewN ?_ _ | (refine Own.at ?_; first | rfl | (simp; done)) | refine Own.past ?_ _)) hbwb; have c0 := o0wb.cell; have f0 := o0wb.fro; have l0 := o0wb.lt; rw [hz]) | (go_at_call 83; refine (num_t _ _ in0.i64 (by decide)).mono ?_; rintro e wc ⟨rfl, hbwc⟩; have hBwc : Below w.heap.size w wc := bup (by with_reducible (repeat' first | assumption | exact Below.refl _ _ | refine Below.drew ?_ | refine bdrewN ?_ _ | refine Below.setCell ?_ (by first | exact Nat.le_refl _ | (simp; done) | (simp; omega) | omega) _ | refine Below.alloc ?_ (by first | exact Nat.le_refl _ | (simp; done) | (simp; omega) | omega) _)) hbwc; have zwc := hBwc.size; have o0wc : Own wc (w.heap.size) #[.int .i64 0, .int .i64 0, .string ⟨#[]⟩, .bool false, .int .i64 0] := Own.keep (by with_reducible (repeat' first | assumption | refine Own.drew ?_ | refine Own.drewN ?_ _ | (refine Own.at ?_; first | rfl | (simp; done)) | refine Own.past ?_ _)) hbwc; have c0 := o0wc.cell; have f0 := o0wc.fro; have l0 := o0wc.lt))
  exact bodyPost_ret (v := (.agg #[.int .i64 (1), .int .i64 (0), .string ⟨#[]⟩, .bool false, .int .i64 (0)])) (by simp [results, Tryz.results61, go_sem, c0, f0, l0]) rfl ⟨rfl, by with_reducible (repeat' first | assumption | exact Below.refl _ _ | refine Below.drew ?_ | refine bdrewN ?_ _ | refine Below.setCell ?_ (by first | exact Nat.le_refl _ | (simp; done) | (simp; omega) | omega) _ | refine Below.alloc ?_ (by first | exact Nat.le_refl _ | (simp; done) | (simp; omega) | omega) _)⟩
def lcmV (r : Option Int) : Value := match r with
  | some m => numV m
  | none => errV 2
set_option maxRecDepth 100000 in
set_option maxHeartbeats 2000000 in
theorem lcm_ok (w : World) (b n : Nat) (l : List Int) (hb : NB w b l) (hn : l.length = n) (hN : Hid (Ins l)) (h16 : n ≤ 16) (hbr : l.any brk = false) (hz : l.any zro = false) : Calls Tryz.prog 61 #[.slice (some ⟨b, 0, none⟩) n n] w fun e w' => e = .returned (lcmV (lcmF 10000 l)) ∧ Below w.heap.size w w' := by
  have mixed : Tryz.prog.follows .mixedOrders = true := by kernel_rfl
  have hlt := hb.lt
  have HB : Hid _ := hb
  have HL : Hid (l.length = n) := hn
  have HR : Hid (l.any brk = false) := hbr
  have HZ : Hid (l.any zro = false) := hz
  clear hb hn
  go_enter Tryz.func61, Tryz.ntmps61
  go_wp2_with (first | (go_at_call 96; refine (contn_any _ _ _ _ (HB.out.keep (by with_reducible (repeat' first | assumption | exact Below.refl _ _ | refine Below.drew ?_ | refine bdrewN ?_ _ | refine Below.setCell ?_ (by first | exact Nat.le_refl _ | (simp; done) | (simp; omega) | omega) _ | refine Below.alloc ?_ (by first | exact Nat.le_refl _ | (simp; done) | (simp; omega) | omega) _))) HL.out hN h16).mono ?_; rintro e wa ⟨rfl, hbwa⟩; have hBwa : Below w.heap.size w wa := bup (by with_reducible (repeat' first | assumption | exact Below.refl _ _ | refine Below.drew ?_ | refine bdrewN ?_ _ | refine Below.setCell ?_ (by first | exact Nat.le_refl _ | (simp; done) | (simp; omega) | omega) _ | refine Below.alloc ?_ (by first | exact Nat.le_refl _ | (simp; done) | (simp; omega) | omega) _)) hbwa; have zwa := hBwa.size; have o0wa : Own wa (w.heap.size) #[.int .i64 0, .int .i64 0, .string ⟨#[]⟩, .bool false, .int .i64 0] := Own.keep (by with_reducible (repeat' first | assumption | refine Own.drew ?_ | refine Own.drewN ?_ _ | (refine Own.at ?_; first | rfl | (simp; done)) | refine Own.past ?_ _)) hbwa; have c0 := o0wa.cell; have f0 := o0wa.fro; have l0 := o0wa.lt; rw [hbr]) | (go_at_call 99; refine (contz_any _ _ _ _ (HB.out.keep hBwa) HL.out h16).mono ?_; rintro e wb ⟨rfl, hbwb⟩; have hBwb : Below w.heap.size w wb := bup (by with_reducible (repeat' first | assumption | exact Below.refl _ _ | refine Below.drew ?_ | refine bdrewN ?_ _ | refine Below.setCell ?_ (by first | exact Nat.le_refl _ | (simp; done) | (simp; omega) | omega) _ | refine Below.alloc ?_ (by first | exact Nat.le_refl _ | (simp; done) | (simp; omega) | omega) _)) hbwb; have zwb := hBwb.size; have o0wb : Own wb (w.heap.size) #[.int .i64 0, .int .i64 0, .string ⟨#[]⟩, .bool false, .int .i64 0] := Own.keep (by with_reducible (repeat' first | assumption | refine Own.drew ?_ | refine Own.drewN ?_ _ | (refine Own.at ?_; first | rfl | (simp; done)) | refine Own.past ?_ _)) hbwb; have c0 := o0wb.cell; have f0 := o0wb.fro; have l0 := o0wb.lt; rw [hz]))
  go_loopw [3, 17] (fun u v w' => ∃ (i : Nat) (m : Int), v = .int .i64 i ∧ i ≤ n ∧ u = .int .i64 m ∧ Hid (Wh m) ∧ Hid (lcmF m (l.drop i) = lcmF 10000 l) ∧ Below w.heap.size w w' ∧ Own w' w.heap.size #[.int .i64 0, .int .i64 0, .string ⟨#[]⟩, .bool false, .int .i64 0]) (fun _ v _ => n - (intOf v).toNat)
  case atStart => exact ⟨0, 10000, rfl, by omega, rfl, (show Hid (Wh 10000) from ⟨by decide, by decide, ⟨1, rfl⟩⟩), rfl, by with_reducible (repeat' first | assumption | exact Below.refl _ _ | refine Below.drew ?_ | refine bdrewN ?_ _ | refine Below.setCell ?_ (by first | exact Nat.le_refl _ | (simp; done) | (simp; omega) | omega) _ | refine Below.alloc ?_ (by first | exact Nat.le_refl _ | (simp; done) | (simp; omega) | omega) _), by with_reducible (repeat' first | assumption | refine Own.drew ?_ | refine Own.drewN ?_ _ | (refine Own.at ?_; first | rfl | (simp; done)) | refine Own.past ?_ _)⟩
  case round =>
    obtain ⟨i, m, rfl, hi, rfl, hwm, hlm, hB3, o3⟩ := hrel
    clear c0 f0 l0 hbr hz
    have z3 := hB3.size
    have c0 := o3.cell
    have f0 := o3.fro
    have l0 := o3.lt
    have hmI : In m := ⟨by have := hwm.out.1; omega, hwm.out.2.1⟩
    by_cases hlt3 : i < n
    · have hlt' : (i : Int) < n := by omega
      have hai : l[i]? = some (l[i]'(by rw [HL.out]; exact hlt3)) := List.getElem?_eq_getElem _
      have hx := hN.out _ (List.mem_of_getElem? hai)
      have hxd := whole_of HR.out (List.mem_of_getElem? hai)
      have hx0 := zero_of HZ.out (List.mem_of_getElem? hai)
      have hdr := drop_cell hai
      have HAi : Hid _ := hai
      revert hx hxd hx0 hdr HAi
      generalize (l[i]'(by rw [HL.out]; exact hlt3)) = x
      intro hx hxd hx0 hdr HAi
      clear hai
      have x0 := (HB.out.keep hB3).at HAi.out
      have hrm := lcm_room hwm.out hxd
      have hge := (gcd_ge hwm.out hxd).1
      have hws : Hid (m / gcdI m x * sz x ≤ 9223372036854775807 → Wh (m / gcdI m x * sz x)) := lcm_wh hwm.out hxd hx0
      have hst : Hid (lcmF 10000 l = if m / gcdI m x * sz x ≤ 9223372036854775807 then lcmF (m / gcdI m x * sz x) (l.drop (i + 1)) else none) := by
        have q := hlm.out
        rw [hdr] at q
        exact q.symm
      have hcm := fun w1 => common_any m x w1 hmI hx
      have hsz := fun w1 => nsize_any x w1 hx
      have hsz1 := (sz_in hx)
      have hsz0 : 0 ≤ sz x := by unfold sz; omega
      clear hlm hdr hxd hx0
      revert hrm hge hws hst hcm hsz hsz1 hsz0
      generalize gcdI m x = g
      generalize sz x = y
      intro hrm hge hws hst hcm hsz hsz1 hsz0
      obtain ⟨t1, t2, t3⟩ := hrm
      revert t1 t2 t3 hws hst
      generalize m / g = t
      intro hws hst t1 t2 t3
      have hw1 : wrap64 t = t := by unfold wrap64; omega
      have hw2 : wrap64 (t * 10000) = t * 10000 := by unfold wrap64; omega
      have hg0 : (g == 0) = false := by simp; omega
      have hgm : (g == -1) = false := by simp; omega
      by_cases hp : t * y ≤ 9223372036854775807
      · have hml := fun w1 => mul_ex t y w1 (by omega) t2 hsz0 hsz1.2 hp
        have hst2 := hst.out
        rw [if_pos hp] at hst2
        have HST : Hid _ := hst2
        have HW : Hid _ := hws.out hp
        clear hst hst2 hws hp hmI
        generalize t * y = m' at hml HST HW
        go_wp2_with (first | (go_at_call 98; refine (hcm _).mono ?_; rintro e wc ⟨rfl, hbwc⟩; have hBwc : Below w.heap.size w wc := bup (by with_reducible (repeat' first | assumption | exact Below.refl _ _ | refine Below.drew ?_ | refine bdrewN ?_ _ | refine Below.setCell ?_ (by first | exact Nat.le_refl _ | (simp; done) | (simp; omega) | omega) _ | refine Below.alloc ?_ (by first | exact Nat.le_refl _ | (simp; done) | (simp; omega) | omega) _)) hbwc; have zwc := hBwc.size; have o0wc : Own wc (w.heap.size) #[.int .i64 0, .int .i64 0, .string ⟨#[]⟩, .bool false, .int .i64 0] := Own.keep (by with_reducible (repeat' first | assumption | refine Own.drew ?_ | refine Own.drewN ?_ _ | (refine Own.at ?_; first | rfl | (simp; done)) | refine Own.past ?_ _)) hbwc; have c0 := o0wc.cell; have f0 := o0wc.fro; have l0 := o0wc.lt) | (go_at_call 84; refine (hsz _).mono ?_; rintro e w5 ⟨rfl, e5⟩; rw [e5]; clear e5 w5) | (go_at_call 92; refine (hml _).mono ?_; rintro e wd ⟨rfl, hbwd⟩; have hBwd : Below w.heap.size w wd := bup (by with_reducible (repeat' first | assumption | exact Below.refl _ _ | refine Below.drew ?_ | refine bdrewN ?_ _ | refine Below.setCell ?_ (by first | exact Nat.le_refl _ | (simp; done) | (simp; omega) | omega) _ | refine Below.alloc ?_ (by first | exact Nat.le_refl _ | (simp; done) | (simp; omega) | omega) _)) hbwd; have zwd := hBwd.size; have o0wd : Own wd (w.heap.size) #[.int .i64 0, .int .i64 0, .string ⟨#[]⟩, .bool false, .int .i64 0] := Own.keep (by with_reducible (repeat' first | assumption | refine Own.drew ?_ | refine Own.drewN ?_ _ | (refine Own.at ?_; first | rfl | (simp; done)) | refine Own.past ?_ _)) hbwd; have c0 := o0wd.cell; have f0 := o0wd.fro; have l0 := o0wd.lt))
        exact ⟨⟨i + 1, m', by go_num, by omega, rfl, HW.out, HST.out.symm, by with_reducible (repeat' first | assumption | exact Below.refl _ _ | refine Below.drew ?_ | refine bdrewN ?_ _ | refine Below.setCell ?_ (by first | exact Nat.le_refl _ | (simp; done) | (simp; omega) | omega) _ | refine Below.alloc ?_ (by first | exact Nat.le_refl _ | (simp; done) | (simp; omega) | omega) _), by with_reducible (repeat' first | assumption | refine Own.drew ?_ | refine Own.drewN ?_ _ | (refine Own.at ?_; first | rfl | (simp; done)) | refine Own.past ?_ _)⟩, by simp [intOf]; omega⟩
      · have hml := fun w1 => mul_exb t y w1 (by omega) t2 hsz0 hsz1.2 hp
        have hst2 := hst.out
        rw [if_neg hp] at hst2
        have HST : Hid _ := hst2
        clear hst hst2 hws hp hmI
        go_wp2_with (first | (go_at_call 98; refine (hcm _).mono ?_; rintro e wc ⟨rfl, hbwc⟩; have hBwc : Below w.heap.size w wc := bup (by with_reducible (repeat' first | assumption | exact Below.refl _ _ | refine Below.drew ?_ | refine bdrewN ?_ _ | refine Below.setCell ?_ (by first | exact Nat.le_refl _ | (simp; done) | (simp; omega) | omega) _ | refine Below.alloc ?_ (by first | exact Nat.le_refl _ | (simp; done) | (simp; omega) | omega) _)) hbwc; have zwc := hBwc.size; have o0wc : Own wc (w.heap.size) #[.int .i64 0, .int .i64 0, .string ⟨#[]⟩, .bool false, .int .i64 0] := Own.keep (by with_reducible (repeat' first | assumption | refine Own.drew ?_ | refine Own.drewN ?_ _ | (refine Own.at ?_; first | rfl | (simp; done)) | refine Own.past ?_ _)) hbwc; have c0 := o0wc.cell; have f0 := o0wc.fro; have l0 := o0wc.lt) | (go_at_call 84; refine (hsz _).mono ?_; rintro e w5 ⟨rfl, e5⟩; rw [e5]; clear e5 w5) | (go_at_call 92; refine (hml _).mono ?_; rintro e wd ⟨rfl, hbwd⟩; have hBwd : Below w.heap.size w wd := bup (by with_reducible (repeat' first | assumption | exact Below.refl _ _ | refine Below.drew ?_ | refine bdrewN ?_ _ | refine Below.setCell ?_ (by first | exact Nat.le_refl _ | (simp; done) | (simp; omega) | omega) _ | refine Below.alloc ?_ (by first | exact Nat.le_refl _ | (simp; done) | (simp; omega) | omega) _)) hbwd; have zwd := hBwd.size; have o0wd : Own wd (w.heap.size) #[.int .i64 0, .int .i64 0, .string ⟨#[]⟩, .bool false, .int .i64 0] := Own.keep (by with_reducible (repeat' first | assumption | refine Own.drew ?_ | refine Own.drewN ?_ _ | (refine Own.at ?_; first | rfl | (simp; done)) | refine Own.past ?_ _)) hbwd; have c0 := o0wd.cell; have f0 := o0wd.fro; have l0 := o0wd.lt) | (go_at_call 9; refine (err_ok _ _ (by decide) (by decide)).mono ?_; rintro e we ⟨rfl, hbwe⟩; have hBwe : Below w.heap.size w we := bup (by with_reducible (repeat' first | assumption | exact Below.refl _ _ | refine Below.drew ?_ | refine bdrewN ?_ _ | refine Below.setCell ?_ (by first | exact Nat.le_refl _ | (simp; done) | (simp; omega) | omega) _ | refine Below.alloc ?_ (by first | exact Nat.le_refl _ | (simp; done) | (simp; omega) | omega) _)) hbwe; have zwe := hBwe.size; have o0we : Own we (w.heap.size) #[.int .i64 0, .int .i64 0, .string ⟨#[]⟩, .bool false, .int .i64 0] := Own.keep (by with_reducible (repeat' first | assumption | refine Own.drew ?_ | refine Own.drewN ?_ _ | (refine Own.at ?_; first | rfl | (simp; done)) | refine Own.past ?_ _)) hbwe; have c0 := o0we.cell; have f0 := o0we.fro; have l0 := o0we.lt))
        exact bodyPost_ret (v := (.agg #[.int .i64 (4), .int .i64 (0), .string ⟨#[]⟩, .bool false, .int .i64 (2)])) (by simp [results, Tryz.results61, go_sem, c0, f0, l0]) rfl ⟨by rw [HST.out]; rfl, by with_reducible (repeat' first | assumption | exact Below.refl _ _ | refine Below.drew ?_ | refine bdrewN ?_ _ | refine Below.setCell ?_ (by first | exact Nat.le_refl _ | (simp; done) | (simp; omega) | omega) _ | refine Below.alloc ?_ (by first | exact Nat.le_refl _ | (simp; done) | (simp; omega) | omega) _)⟩
    · have hlt' : ¬ (i : Int) < n := by omega
      have hq := hlm.out
      rw [List.drop_of_length_le (by rw [HL.out]; omega)] at hq
      have HQ : Hid (some m = lcmF 10000 l) := hq
      clear hq hlm
      go_wp2_with (go_at_call 83; refine (num_t _ _ hmI.i64 (by have := hmI.1; omega)).mono ?_; rintro e wc ⟨rfl, hbwc⟩; have hBwc : Below w.heap.size w wc := bup (by with_reducible (repeat' first | assumption | exact Below.refl _ _ | refine Below.drew ?_ | refine bdrewN ?_ _ | refine Below.setCell ?_ (by first | exact Nat.le_refl _ | (simp; done) | (simp; omega) | omega) _ | refine Below.alloc ?_ (by first | exact Nat.le_refl _ | (simp; done) | (simp; omega) | omega) _)) hbwc; have zwc := hBwc.size; have o0wc : Own wc (w.heap.size) #[.int .i64 0, .int .i64 0, .string ⟨#[]⟩, .bool false, .int .i64 0] := Own.keep (by with_reducible (repeat' first | assumption | refine Own.drew ?_ | refine Own.drewN ?_ _ | (refine Own.at ?_; first | rfl | (simp; done)) | refine Own.past ?_ _)) hbwc; have c0 := o0wc.cell; have f0 := o0wc.fro; have l0 := o0wc.lt)
      exact bodyPost_ret (v := (.agg #[.int .i64 (1), .int .i64 (m), .string ⟨#[]⟩, .bool false, .int .i64 (0)])) (by simp [results, Tryz.results61, go_sem, c0, f0, l0]) rfl ⟨by rw [← HQ.out]; rfl, by with_reducible (repeat' first | assumption | exact Below.refl _ _ | refine Below.drew ?_ | refine bdrewN ?_ _ | refine Below.setCell ?_ (by first | exact Nat.le_refl _ | (simp; done) | (simp; omega) | omega) _ | refine Below.alloc ?_ (by first | exact Nat.le_refl _ | (simp; done) | (simp; omega) | omega) _)⟩
end Go.Proofs.YtfpbcokfianjaaaGreat
namespace Go.Proofs.YtfpbcokfianjaaaGreat
open Go.RowKit
set_option linter.all false
theorem len1 {l : List Int} (h : l.length = 1) : ∃ x, l = [x] := by
  match l, h with
  | [x], _ => exact ⟨x, rfl⟩
theorem len2 {l : List Int} (h : l.length = 2) : ∃ x y, l = [x, y] := by
  match l, h with
  | [x, y], _ => exact ⟨x, y, rfl⟩
theorem len3 {l : List Int} (h : l.length = 3) : ∃ x y z, l = [x, y, z] := by
  match l, h with
  | [x, y, z], _ => exact ⟨x, y, z, rfl⟩
theorem has_bd {k : Nat} {n : Nat} {lo hi : Int} (h : hasB lo hi (n : Int) = true) : lo ≤ n ∧ (n : Int) ≤ hi := by unfold hasB at h; simpa using h
theorem neg_in {s : Int} (h : In s) : In (-s) := ⟨by have := h.2; omega, by have := h.1; omega⟩
theorem lo_pos (k : Nat) (h : k < 16) : (0 : Int) < loI k := by
  match k, h with
  | 0, _ => exact (by decide)
  | 1, _ => exact (by decide)
  | 2, _ => exact (by decide)
  | 3, _ => exact (by decide)
  | 4, _ => exact (by decide)
  | 5, _ => exact (by decide)
  | 6, _ => exact (by decide)
  | 7, _ => exact (by decide)
  | 8, _ => exact (by decide)
  | 9, _ => exact (by decide)
  | 10, _ => exact (by decide)
  | 11, _ => exact (by decide)
  | 12, _ => exact (by decide)
  | 13, _ => exact (by decide)
  | 14, _ => exact (by decide)
  | 15, _ => exact (by decide)
  | j + 16, h => exact absurd h (by omega)
theorem hi_le (k : Nat) (h : k < 16) : hiI k ≤ 16 := by
  match k, h with
  | 0, _ => exact (by decide)
  | 1, _ => exact (by decide)
  | 2, _ => exact (by decide)
  | 3, _ => exact (by decide)
  | 4, _ => exact (by decide)
  | 5, _ => exact (by decide)
  | 6, _ => exact (by decide)
  | 7, _ => exact (by decide)
  | 8, _ => exact (by decide)
  | 9, _ => exact (by decide)
  | 10, _ => exact (by decide)
  | 11, _ => exact (by decide)
  | 12, _ => exact (by decide)
  | 13, _ => exact (by decide)
  | 14, _ => exact (by decide)
  | 15, _ => exact (by decide)
  | j + 16, h => exact absurd h (by omega)
theorem partsI_in (b : Bool) : In (partsI b) := by cases b <;> exact ⟨by decide, by decide⟩
theorem may_in {t n : Int} {s : ByteArray} {b : Bool} {c : Int} (hm : mayB t n s b c = true) (h1 : t = 1) (hn : I64 n) : In n := by
  unfold mayB at hm
  simp at hm
  have h2 := hm.2.2.2.2.2.2.1
  obtain ⟨a1, a2⟩ := hn
  exact ⟨by omega, a2⟩
theorem asN_in {a : Ag} (hn : I64 a.n) : In (asN a) := by
  unfold asN asNum
  split
  · rename_i h
    split
    · exact may_in h.1 (by assumption) hn
    · split
      · exact partsI_in _
      · exact in0
  · exact in0
end Go.Proofs.YtfpbcokfianjaaaGreat
