/- The contract of the document's Arg (package orielref08) at any rectangle: whether it may be. New memory alone is made. The contracts of the document's Arg (package orielref08) at any argument, and of its Args: which are rectangles, and whether all may be. New memory alone is made. The condition: each argument's entries lie as they were read; at most 2^40 arguments. -/
import Derived.Test.YtbpbocgbfeblmaaGreatDoorQGA1
import Derived.Test.YtbpbocgbfeblmaaGreatDoorQGW
import Derived.Test.YtbpbocgbfeblmaaGreatDoorQGTr
namespace Go.Proofs.YtbpbocgbfeblmaaGreatDoor
open Go.RowKit
set_option linter.all false
theorem darg_m0 (r0 r1 r2 r3 : Int) (ep : Option Addr) (ec : Nat) (w : World) (hr : Ad.mayR r0 r1 r2 r3 = true) : Calls Tryz.prog 11 #[(.agg #[.bool true, .int .i64 0, .int .i64 0, .string ⟨#[]⟩, .bool false, .int .i64 0, .int .i64 r0, .int .i64 r1, .int .i64 r2, .int .i64 r3, .slice ep 0 ec])] w fun e w' => e = .returned (.bool true) ∧ Below w.heap.size w w' := by
  go_enter Tryz.func11, Tryz.ntmps11
  go_wp2_with (go_at_call 43; refine (Ad.rmayR_any _ _ _ _ _).mono ?_; rintro e wa ⟨rfl, hbwa⟩; have hBwa : Below w.heap.size w wa := bup (by with_reducible (repeat' first | assumption | exact Below.refl _ _ | refine Below.drew ?_ | refine bdrewN ?_ _ | refine Below.setCell ?_ (by first | exact Nat.le_refl _ | (simp; done) | (simp; omega) | omega) _ | refine Below.alloc ?_ (by first | exact Nat.le_refl _ | (simp; done) | (simp; omega) | omega) _)) hbwa; have zwa := hBwa.size; have o0wa : Own wa (w.heap.size) #[.bool true, .int .i64 0, .int .i64 0, .string ⟨#[]⟩, .bool false, .int .i64 0, .int .i64 r0, .int .i64 r1, .int .i64 r2, .int .i64 r3, .slice ep 0 ec] := Own.keep (by with_reducible (repeat' first | assumption | refine Own.drew ?_ | refine Own.drewN ?_ _ | (refine Own.at ?_; first | rfl | (simp; done)) | refine Own.past ?_ _)) hbwa; have c0 := o0wa.cell; have f0 := o0wa.fro; have l0 := o0wa.lt)
  go_loopw [3] (fun v w' => v = .int .i64 0 ∧ Below w.heap.size w w' ∧ Own w' w.heap.size #[.bool true, .int .i64 0, .int .i64 0, .string ⟨#[]⟩, .bool false, .int .i64 0, .int .i64 r0, .int .i64 r1, .int .i64 r2, .int .i64 r3, .slice ep 0 ec]) (fun _ _ => 0)
  case atStart => exact ⟨rfl, by with_reducible (repeat' first | assumption | exact Below.refl _ _ | refine Below.drew ?_ | refine bdrewN ?_ _ | refine Below.setCell ?_ (by first | exact Nat.le_refl _ | (simp; done) | (simp; omega) | omega) _ | refine Below.alloc ?_ (by first | exact Nat.le_refl _ | (simp; done) | (simp; omega) | omega) _), by with_reducible (repeat' first | assumption | refine Own.drew ?_ | refine Own.drewN ?_ _ | (refine Own.at ?_; first | rfl | (simp; done)) | refine Own.past ?_ _)⟩
  case round =>
    obtain ⟨rfl, hB3, o3⟩ := hrel
    clear c0 f0 l0
    have c0 := o3.cell
    have f0 := o3.fro
    have l0 := o3.lt
    go_wp2
    go_ret
    exact ⟨by first | rfl | simp, by with_reducible (repeat' first | assumption | exact Below.refl _ _ | refine Below.drew ?_ | refine bdrewN ?_ _ | refine Below.setCell ?_ (by first | exact Nat.le_refl _ | (simp; done) | (simp; omega) | omega) _ | refine Below.alloc ?_ (by first | exact Nat.le_refl _ | (simp; done) | (simp; omega) | omega) _)⟩
theorem darg_m (a : Ag) (es : List En) (w : World) (hm : a.many = true) (hV : View En.cells 7 w (.slice a.ep a.en a.ec) es) (hN : Hid (∀ x ∈ es, I64 x.n)) (hl : es.length ≤ 9223372036854775807) : Calls Tryz.prog 11 #[.agg #[.bool true, .int .i64 a.t, .int .i64 a.n, .string a.s, .bool a.b, .int .i64 a.c, .int .i64 a.r0, .int .i64 a.r1, .int .i64 a.r2, .int .i64 a.r3, .slice a.ep a.en a.ec]] w fun e w' => e = .returned (.bool (!mnB (a, es))) ∧ Below w.heap.size w w' := by
  obtain ⟨p, cap, e0, hc, hf⟩ := hV
  obtain ⟨m, t, n, s, b, c, r0, r1, r2, r3, ep, en, ec⟩ := a
  injection e0 with e1 e2 e3
  simp only at e1 e2 e3 hm hc hf
  subst hm
  cases hr : Ad.mayR r0 r1 r2 r3
  · rw [show (!mnB ((⟨true, t, n, s, b, c, r0, r1, r2, r3, ep, en, ec⟩ : Ag), es)) = false by simp [mnB, hr]]
    exact darg_mn t n s b c r0 r1 r2 r3 ep en ec w hr
  cases hv : vz5 t n s b c
  · rw [show (!mnB ((⟨true, t, n, s, b, c, r0, r1, r2, r3, ep, en, ec⟩ : Ag), es)) = false by simp [mnB, hv]]
    exact darg_mv t n s b c r0 r1 r2 r3 ep en ec w hr hv
  rw [show (!mnB ((⟨true, t, n, s, b, c, r0, r1, r2, r3, ep, en, ec⟩ : Ag), es)) = entsB r0 r1 r2 r3 es by simp [mnB, hv, hr]]
  have hv2 : t = 0 ∧ n = 0 ∧ s = ⟨#[]⟩ ∧ b = false ∧ c = 0 := by unfold vz5 at hv; exact of_decide_eq_true hv
  obtain ⟨rfl, rfl, rfl, rfl, rfl⟩ := hv2
  by_cases h0 : 0 < es.length
  · obtain ⟨eb, eo, hp, hla, hcell⟩ := hf h0
    rw [hp] at e1
    subst e1
    exact darg_loop r0 r1 r2 r3 eb eo en ec es w hr hla hcell e2.symm (by omega) (by omega) hN
  · have : en = 0 := by omega
    subst this
    obtain rfl : es = [] := List.eq_nil_of_length_eq_zero (by omega)
    rw [ents_nil]
    exact darg_m0 r0 r1 r2 r3 ep ec w hr
end Go.Proofs.YtbpbocgbfeblmaaGreatDoor
namespace Go.Proofs.YtbpbocgbfeblmaaGreatDoor
open Go.RowKit
set_option linter.all false
theorem darg_r (t n : Int) (s : ByteArray) (b : Bool) (c r0 r1 r2 r3 : Int) (ep : Option Addr) (en ec : Nat) (w : World) (hr : rz r0 r1 r2 r3 = false) : Calls Tryz.prog 11 #[(.agg #[.bool false, .int .i64 t, .int .i64 n, .string s, .bool b, .int .i64 c, .int .i64 r0, .int .i64 r1, .int .i64 r2, .int .i64 r3, .slice ep en ec])] w fun e w' => e = .returned (.bool false) ∧ Below w.heap.size w w' := by
  have hne := eqR r0 r1 r2 r3
  rw [hr] at hne
  go_enter Tryz.func11, Tryz.ntmps11
  go_wp2
  go_ret
  exact ⟨retBl (by first | rfl | simp), by with_reducible (repeat' first | assumption | exact Below.refl _ _ | refine Below.drew ?_ | refine bdrewN ?_ _ | refine Below.setCell ?_ (by first | exact Nat.le_refl _ | (simp; done) | (simp; omega) | omega) _ | refine Below.alloc ?_ (by first | exact Nat.le_refl _ | (simp; done) | (simp; omega) | omega) _)⟩
theorem darg_e (t n : Int) (s : ByteArray) (b : Bool) (c r0 r1 r2 r3 : Int) (ep : Option Addr) (en ec : Nat) (w : World) (hr : rz r0 r1 r2 r3 = true) (he : 0 < en) : Calls Tryz.prog 11 #[(.agg #[.bool false, .int .i64 t, .int .i64 n, .string s, .bool b, .int .i64 c, .int .i64 r0, .int .i64 r1, .int .i64 r2, .int .i64 r3, .slice ep en ec])] w fun e w' => e = .returned (.bool false) ∧ Below w.heap.size w w' := by
  have hne := eqR r0 r1 r2 r3
  rw [hr] at hne
  have he2 : ((en : Int) == 0) = false := by simp; omega
  go_enter Tryz.func11, Tryz.ntmps11
  go_wp2
  go_ret
  exact ⟨retBl (by first | rfl | simp), by with_reducible (repeat' first | assumption | exact Below.refl _ _ | refine Below.drew ?_ | refine bdrewN ?_ _ | refine Below.setCell ?_ (by first | exact Nat.le_refl _ | (simp; done) | (simp; omega) | omega) _ | refine Below.alloc ?_ (by first | exact Nat.le_refl _ | (simp; done) | (simp; omega) | omega) _)⟩
theorem darg_v (t n : Int) (s : ByteArray) (b : Bool) (c r0 r1 r2 r3 : Int) (ep : Option Addr) (ec : Nat) (w : World) (hr : rz r0 r1 r2 r3 = true) (hn : I64 n) : Calls Tryz.prog 11 #[(.agg #[.bool false, .int .i64 t, .int .i64 n, .string s, .bool b, .int .i64 c, .int .i64 r0, .int .i64 r1, .int .i64 r2, .int .i64 r3, .slice ep 0 ec])] w fun e w' => e = .returned (.bool (mayB t n s b c)) ∧ Below w.heap.size w w' := by
  have hne := eqR r0 r1 r2 r3
  rw [hr] at hne
  go_enter Tryz.func11, Tryz.ntmps11
  go_wp2_with (go_at_call 42; refine (rmayV _ _ _ _ _ _ hn).mono ?_; rintro e wa ⟨rfl, hbwa⟩; have hBwa : Below w.heap.size w wa := bup (by with_reducible (repeat' first | assumption | exact Below.refl _ _ | refine Below.drew ?_ | refine bdrewN ?_ _ | refine Below.setCell ?_ (by first | exact Nat.le_refl _ | (simp; done) | (simp; omega) | omega) _ | refine Below.alloc ?_ (by first | exact Nat.le_refl _ | (simp; done) | (simp; omega) | omega) _)) hbwa; have zwa := hBwa.size; have o0wa : Own wa (w.heap.size) #[.bool false, .int .i64 t, .int .i64 n, .string s, .bool b, .int .i64 c, .int .i64 r0, .int .i64 r1, .int .i64 r2, .int .i64 r3, .slice ep 0 ec] := Own.keep (by with_reducible (repeat' first | assumption | refine Own.drew ?_ | refine Own.drewN ?_ _ | (refine Own.at ?_; first | rfl | (simp; done)) | refine Own.past ?_ _)) hbwa; have c0 := o0wa.cell; have f0 := o0wa.fro; have l0 := o0wa.lt)
  go_ret
  exact ⟨retBl (by first | rfl | simp), by with_reducible (repeat' first | assumption | exact Below.refl _ _ | refine Below.drew ?_ | refine bdrewN ?_ _ | refine Below.setCell ?_ (by first | exact Nat.le_refl _ | (simp; done) | (simp; omega) | omega) _ | refine Below.alloc ?_ (by first | exact Nat.le_refl _ | (simp; done) | (simp; omega) | omega) _)⟩
theorem darg_s (a : Ag) (w : World) (hm : a.many = false) (ha : I64 a.n) : Calls Tryz.prog 11 #[.agg #[.bool false, .int .i64 a.t, .int .i64 a.n, .string a.s, .bool a.b, .int .i64 a.c, .int .i64 a.r0, .int .i64 a.r1, .int .i64 a.r2, .int .i64 a.r3, .slice a.ep a.en a.ec]] w fun e w' => e = .returned (.bool (!nosB a)) ∧ Below w.heap.size w w' := by
  obtain ⟨m, t, n, s, b, c, r0, r1, r2, r3, ep, en, ec⟩ := a
  simp only at hm
  subst hm
  cases hr : rz r0 r1 r2 r3
  · rw [show (!nosB ⟨false, t, n, s, b, c, r0, r1, r2, r3, ep, en, ec⟩) = false by simp [nosB, hr]]
    exact darg_r t n s b c r0 r1 r2 r3 ep en ec w hr
  · by_cases he : 0 < en
    · rw [show (!nosB ⟨false, t, n, s, b, c, r0, r1, r2, r3, ep, en, ec⟩) = false by simp [nosB, hr, he]]
      exact darg_e t n s b c r0 r1 r2 r3 ep en ec w hr he
    · obtain rfl : en = 0 := by omega
      rw [show (!nosB ⟨false, t, n, s, b, c, r0, r1, r2, r3, ep, 0, ec⟩) = mayB t n s b c by simp [nosB, hr]]
      exact darg_v t n s b c r0 r1 r2 r3 ep ec w hr ha
/-- What the document's Arg tells. -/
theorem darg_x (p : Ag × List En) (w : World) (h : AgE w p) : Calls Tryz.prog 11 #[.agg #[.bool p.1.many, .int .i64 p.1.t, .int .i64 p.1.n, .string p.1.s, .bool p.1.b, .int .i64 p.1.c, .int .i64 p.1.r0, .int .i64 p.1.r1, .int .i64 p.1.r2, .int .i64 p.1.r3, .slice p.1.ep p.1.en p.1.ec]] w fun e w' => e = .returned (.bool (!mnB p)) ∧ Below w.heap.size w w' := by
  obtain ⟨a, es⟩ := p
  cases hm : a.many
  · rw [show mnB (a, es) = nosB a by simp [mnB, hm]]
    exact darg_s a w hm h.n
  · exact darg_m a es w hm h.vw h.en (Nat.le_trans h.few (by decide))
/-- What the document's Args tells. -/
def ArgsX (base : Nat) (L : List (Ag × List En)) (e : Ending) (w' : World) : Prop := ∃ mv, e = .returned (.tuple #[mv, .bool (!L.any mnB)]) ∧ Row bcell1 1 4 w' base mv (L.map (·.1.many))
theorem bcell1_size (b : Bool) : (bcell1 b).size = 1 := rfl
theorem bcell1_one (b : Bool) : ∀ u ∈ (bcell1 b).toList, u.oneCell' = true := by intro u hu; simp [bcell1] at hu; subst hu; rfl
theorem any_snoc {α : Type} {p : α → Bool} {l : List α} {i : Nat} {x : α} (h : l[i]? = some x) : (l.take (i + 1)).any p = ((l.take i).any p || p x) := by
  rw [List.take_succ, h, Option.toList_some, List.any_append]; simp
theorem okx_next {L : List (Ag × List En)} {i : Nat} {x : Ag × List En} (h : L[i]? = some x) (h1 : true = !(L.take i).any mnB) : (!mnB x) = !(L.take (i + 1)).any mnB := by
  rw [any_snoc h]
  cases hh : (L.take i).any mnB
  · simp
  · rw [hh] at h1; cases h1
theorem okx_stay {L : List (Ag × List En)} {i : Nat} {x : Ag × List En} (h : L[i]? = some x) (h1 : false = !(L.take i).any mnB) : false = !(L.take (i + 1)).any mnB := by
  rw [any_snoc h]
  cases hh : (L.take i).any mnB
  · rw [hh] at h1; cases h1
  · simp
set_option maxRecDepth 100000 in
set_option maxHeartbeats 1000000 in
theorem argsx_y (w : World) (b o c n : Nat) (L : List (Ag × List En)) (hla : b < w.heap.size) (HA : ∀ i x, L[i]? = some x → ∀ j, j < 11 → w.cell? ⟨b, o + i * 11 + j, none⟩ = (Ag.cells x.1)[j]?) (hn : L.length = n) (hc : n ≤ c) (h0 : 0 < n) (hl : n ≤ 9223372036854775807) (h40 : n ≤ 1099511627776) (hE : Hid (∀ p ∈ L, AgE w p)) :
    Calls Tryz.prog 9 #[.slice (some ⟨b, o, none⟩) n c] w fun e w' => ArgsX w.heap.size L e w' ∧ Below w.heap.size w w' := by
  obtain ⟨i0, hi, hz0, hz1, hz2⟩ := info_parts infoBool
  have HI : Hid _ := hi
  have HZ0 : Hid _ := hz0
  have HZ1 : Hid _ := hz1
  have HZ2 : Hid _ := hz2
  clear hi hz0 hz1 hz2
  have mixed : Tryz.prog.follows .mixedOrders = true := by kernel_rfl
  have HA' : Hid _ := HA
  have HL : Hid (L.length = n) := hn
  clear HA hn
  go_enter Tryz.func9, Tryz.ntmps9
  go_wp2
  go_loopw [4, 5, 6] (fun u v j w' => ∃ (i : Nat) (ok : Bool), j = .int .i64 i ∧ v = .bool ok ∧ i ≤ n ∧ Hid (Row bcell1 1 4 w' w.heap.size u ((L.take i).map (·.1.many))) ∧ Hid (ok = !(L.take i).any mnB) ∧ Below w.heap.size w w') (fun _ _ j _ => n - (intOf j).toNat)
  case atStart => exact ⟨0, true, rfl, rfl, by omega, Row.nil _ _, (show Hid _ from rfl), Below.refl _ _⟩
  case round =>
    obtain ⟨i, ok, rfl, rfl, hii, HR, hok, hB3⟩ := hrel
    have z3 := hB3.size
    by_cases hlt : i < n
    · have hlt' : (i : Int) < n := by omega
      have hai : L[i]? = some (L[i]'(by rw [HL.out]; exact hlt)) := List.getElem?_eq_getElem _
      have ca' := fun j hj => (show w.cell? ⟨b, o + i * 11 + j, none⟩ = _ from HA'.out i _ hai j hj)
      have HAi : Hid _ := hai
      revert ca' HAi
      generalize (L[i]'(by rw [HL.out]; exact hlt)) = x
      intro ca' HAi
      clear hai
      have yy0 : w.cell? ⟨b, o + i * 11, none⟩ = some (.bool x.1.many) := ca' 0 (by decide)
      have yy1 : w.cell? ⟨b, o + i * 11 + 1, none⟩ = some (.int .i64 x.1.t) := ca' 1 (by decide)
      have yy2 : w.cell? ⟨b, o + i * 11 + 2, none⟩ = some (.int .i64 x.1.n) := ca' 2 (by decide)
      have yy3 : w.cell? ⟨b, o + i * 11 + 3, none⟩ = some (.string x.1.s) := ca' 3 (by decide)
      have yy4 : w.cell? ⟨b, o + i * 11 + 4, none⟩ = some (.bool x.1.b) := ca' 4 (by decide)
      have yy5 : w.cell? ⟨b, o + i * 11 + 5, none⟩ = some (.int .i64 x.1.c) := ca' 5 (by decide)
      have yy6 : w.cell? ⟨b, o + i * 11 + 6, none⟩ = some (.int .i64 x.1.r0) := ca' 6 (by decide)
      have yy7 : w.cell? ⟨b, o + i * 11 + 7, none⟩ = some (.int .i64 x.1.r1) := ca' 7 (by decide)
      have yy8 : w.cell? ⟨b, o + i * 11 + 8, none⟩ = some (.int .i64 x.1.r2) := ca' 8 (by decide)
      have yy9 : w.cell? ⟨b, o + i * 11 + 9, none⟩ = some (.int .i64 x.1.r3) := ca' 9 (by decide)
      have yy10 : w.cell? ⟨b, o + i * 11 + 10, none⟩ = some (.slice x.1.ep x.1.en x.1.ec) := ca' 10 (by decide)
      clear ca'
      have x0 := yy0
      have x1 := yy1
      have x2 := yy2
      have x3 := yy3
      have x4 := yy4
      have x5 := yy5
      have x6 := yy6
      have x7 := yy7
      have x8 := yy8
      have x9 := yy9
      have x10 := yy10
      clear yy0 yy1 yy2 yy3 yy4 yy5 yy6 yy7 yy8 yy9 yy10
      have u0 := (hB3.cell (p := ⟨b, o + i * 11, none⟩) hla).trans x0
      obtain ⟨up, uc, rfl, _, _⟩ := Row.slice HR.out
      have HO : Hid (wr.ownsRow w.heap.size 4 1 (.slice up ((L.take i).map (·.1.many)).length uc) ((L.take i).map (·.1.many)).length (flatC bcell1 ((L.take i).map (·.1.many)))) := HR.out
      cases ok
      · go_wp2_with (at_builtin; refine wpList_append_own _ rfl _ _ 30 rfl w.heap.size 4 i0 _ 1 1 Tryz.underlying30 HI.out HZ0.out HZ1.out HZ2.out rfl (by decide) _ _ _ rfl (HO.out.alloc _) ⟨wr.heap.size, 0, none⟩ 1 1 (bcell1 x.1.many).toList rfl rfl (by exact news_pl _ _ _) (bcell1_one _) (by rw [List.length_map, List.length_take]; unfold maxLen; omega) (by rw [List.length_map, List.length_take]; omega) (by rw [World.size_alloc]; omega) ?_; intro v' w1 hown' hgrow _; have R := app_rowv (t := x.1.many) (hB3.alloc (by omega) _) HR.out hown' hgrow; rw [take_map HAi.out] at R; have hB4 := R.2; have z4 := hB4.size; have HR4 : Hid _ := R.1; clear R hown' hgrow; skip)
        exact ⟨⟨i + 1, false, by go_num, rfl, by omega, HR4, (show Hid _ from okx_stay HAi.out hok.out), by with_reducible (repeat' first | assumption | exact Below.refl _ _ | refine Below.drew ?_ | refine bdrewN ?_ _ | refine Below.setCell ?_ (by first | exact Nat.le_refl _ | (simp; done) | (simp; omega) | omega) _ | refine Below.alloc ?_ (by first | exact Nat.le_refl _ | (simp; done) | (simp; omega) | omega) _)⟩, by simp [intOf]; omega⟩
      · go_wp2_with (first | (at_builtin; refine wpList_append_own _ rfl _ _ 30 rfl w.heap.size 4 i0 _ 1 1 Tryz.underlying30 HI.out HZ0.out HZ1.out HZ2.out rfl (by decide) _ _ _ rfl (HO.out.alloc _) ⟨wr.heap.size, 0, none⟩ 1 1 (bcell1 x.1.many).toList rfl rfl (by exact news_pl _ _ _) (bcell1_one _) (by rw [List.length_map, List.length_take]; unfold maxLen; omega) (by rw [List.length_map, List.length_take]; omega) (by rw [World.size_alloc]; omega) ?_; intro v' w1 hown' hgrow _; have R := app_rowv (t := x.1.many) (hB3.alloc (by omega) _) HR.out hown' hgrow; rw [take_map HAi.out] at R; have hB4 := R.2; have z4 := hB4.size; have HR4 : Hid _ := R.1; clear R hown' hgrow; have y0 := (hB4.cell (p := ⟨b, o + i * 11, none⟩) hla).trans x0; have y1 := (hB4.cell (p := ⟨b, o + i * 11 + 1, none⟩) hla).trans x1; have y2 := (hB4.cell (p := ⟨b, o + i * 11 + 2, none⟩) hla).trans x2; have y3 := (hB4.cell (p := ⟨b, o + i * 11 + 3, none⟩) hla).trans x3; have y4 := (hB4.cell (p := ⟨b, o + i * 11 + 4, none⟩) hla).trans x4; have y5 := (hB4.cell (p := ⟨b, o + i * 11 + 5, none⟩) hla).trans x5; have y6 := (hB4.cell (p := ⟨b, o + i * 11 + 6, none⟩) hla).trans x6; have y7 := (hB4.cell (p := ⟨b, o + i * 11 + 7, none⟩) hla).trans x7; have y8 := (hB4.cell (p := ⟨b, o + i * 11 + 8, none⟩) hla).trans x8; have y9 := (hB4.cell (p := ⟨b, o + i * 11 + 9, none⟩) hla).trans x9; have y10 := (hB4.cell (p := ⟨b, o + i * 11 + 10, none⟩) hla).trans x10) | (go_at_call 11; refine (darg_x x _ ((hE.out _ (List.mem_of_getElem? HAi.out)).keep hB4)).mono ?_; rintro e w2 ⟨rfl, hb2⟩; have hB5 : Below w.heap.size w w2 := bup (by with_reducible (repeat' first | assumption | exact Below.refl _ _ | refine Below.drew ?_ | refine bdrewN ?_ _ | refine Below.setCell ?_ (by first | exact Nat.le_refl _ | (simp; done) | (simp; omega) | omega) _ | refine Below.alloc ?_ (by first | exact Nat.le_refl _ | (simp; done) | (simp; omega) | omega) _)) hb2; have HR5 : Hid _ := Row.keep HR4.out hb2))
        exact ⟨⟨i + 1, !mnB x, by go_num, rfl, by omega, HR5, (show Hid _ from okx_next HAi.out hok.out), by with_reducible (repeat' first | assumption | exact Below.refl _ _ | refine Below.drew ?_ | refine bdrewN ?_ _ | refine Below.setCell ?_ (by first | exact Nat.le_refl _ | (simp; done) | (simp; omega) | omega) _ | refine Below.alloc ?_ (by first | exact Nat.le_refl _ | (simp; done) | (simp; omega) | omega) _)⟩, by simp [intOf]; omega⟩
    · have hlt' : ¬ (i : Int) < n := by omega
      have hil : L.take i = L := List.take_of_length_le (by rw [HL.out]; omega)
      have q1 := HR.out
      have q2 := hok.out
      rw [hil] at q1 q2
      have Q2 : Hid _ := q2
      clear HR hok q2
      go_wp2
      exact bodyPost_ret (v := .tuple #[u4, .bool ok]) (by simp [results, Tryz.results9, go_sem]) rfl ⟨⟨u4, by rw [Q2.out], q1⟩, by with_reducible (repeat' first | assumption | exact Below.refl _ _ | refine Below.drew ?_ | refine bdrewN ?_ _ | refine Below.setCell ?_ (by first | exact Nat.le_refl _ | (simp; done) | (simp; omega) | omega) _ | refine Below.alloc ?_ (by first | exact Nat.le_refl _ | (simp; done) | (simp; omega) | omega) _)⟩
theorem argsx_0 (w : World) (p : Option Addr) (c : Nat) : Calls Tryz.prog 9 #[.slice p 0 c] w fun e w' => ArgsX w.heap.size [] e w' ∧ Below w.heap.size w w' := by
  go_enter Tryz.func9, Tryz.ntmps9
  go_wp2
  go_loopw [4, 5, 6] (fun u v j w' => u = .slice none 0 0 ∧ v = .bool true ∧ j = .int .i64 0 ∧ w' = w) (fun _ _ _ _ => 0)
  case atStart => exact ⟨rfl, rfl, rfl, rfl⟩
  case round =>
    obtain ⟨rfl, rfl, rfl, rfl⟩ := hrel
    go_wp2
    exact bodyPost_ret (v := .tuple #[.slice none 0 0, .bool true]) (by simp [results, Tryz.results9, go_sem]) rfl ⟨⟨_, rfl, Row.nil _ _⟩, Below.refl _ _⟩
theorem argsx_any (w : World) (v : Value) (L : List (Ag × List En)) (h : AV w v (L.map Prod.fst)) (hl : L.length ≤ 1099511627776) (hE : Hid (∀ p ∈ L, AgE w p)) : Calls Tryz.prog 9 #[v] w fun e w' => ArgsX w.heap.size L e w' ∧ Below w.heap.size w w' := by
  obtain ⟨p, c, rfl, hc, hf⟩ := h
  rw [List.length_map] at hc hf
  rw [List.length_map]
  by_cases h0 : 0 < L.length
  · obtain ⟨b, o, rfl, hlt, HA⟩ := hf h0
    exact argsx_y w b o c L.length L hlt (fun i x hx j hj => HA i x.1 (by rw [List.getElem?_map, hx]; rfl) j hj) rfl hc h0 (by omega) hl hE
  · have e : L = [] := List.eq_nil_of_length_eq_zero (by omega)
    subst e
    exact argsx_0 w p c
end Go.Proofs.YtbpbocgbfeblmaaGreatDoor
