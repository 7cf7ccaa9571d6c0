/- The contracts of the document's Arg (package orielref08) at any argument, and of its Args: which are rectangles, and whether all may be. New memory alone is made. The condition: each argument's entries lie as they were read; at most 2^40 arguments. Plain facts of the law AggsOrder, the seven functions of its list by their place, and the contract of the law's faulty. New memory alone is made. -/
import Derived.Test.YtcgcnpcimfaecaaGreatDoorQGA2
import Derived.Test.YtcgcnpcimfaecaaGreatDoorQGW
import Derived.Test.YtcgcnpcimfaecaaGreatDoorQGTr
import Derived.Test.YtcgcnpcimfaecaaGreatDoorQGP5
import Derived.Test.YtcgcnpcimfaecaaGreatDoorQGY1
namespace Go.Proofs.YtcgcnpcimfaecaaGreatDoor
open Go.RowKit
set_option linter.all false
theorem darg_r (t n : Int) (s : ByteArray) (b : Bool) (c r0 r1 r2 r3 : Int) (ep : Option Addr) (en ec : Nat) (w : World) (hr : rz r0 r1 r2 r3 = false) : Calls Tryz.prog 21 #[(.agg #[.bool false, .int .i64 t, .int .i64 n, .string s, .bool b, .int .i64 c, .int .i64 r0, .int .i64 r1, .int .i64 r2, .int .i64 r3, .slice ep en ec])] w fun e w' => e = .returned (.bool false) ∧ Below w.heap.size w w' := by
  have hne := eqR r0 r1 r2 r3
  rw [hr] at hne
  go_enter Tryz.func21, Tryz.ntmps21
  go_wp2
  go_ret
  exact ⟨retBl (by first | rfl | simp), by with_reducible (repeat' first | assumption | exact Below.refl _ _ | refine Below.drew ?_ | refine bdrewN ?_ _ | refine Below.setCell ?_ (by first | exact Nat.le_refl _ | (simp; done) | (simp; omega) | omega) _ | refine Below.alloc ?_ (by first | exact Nat.le_refl _ | (simp; done) | (simp; omega) | omega) _)⟩
theorem darg_e (t n : Int) (s : ByteArray) (b : Bool) (c r0 r1 r2 r3 : Int) (ep : Option Addr) (en ec : Nat) (w : World) (hr : rz r0 r1 r2 r3 = true) (he : 0 < en) : Calls Tryz.prog 21 #[(.agg #[.bool false, .int .i64 t, .int .i64 n, .string s, .bool b, .int .i64 c, .int .i64 r0, .int .i64 r1, .int .i64 r2, .int .i64 r3, .slice ep en ec])] w fun e w' => e = .returned (.bool false) ∧ Below w.heap.size w w' := by
  have hne := eqR r0 r1 r2 r3
  rw [hr] at hne
  have he2 : ((en : Int) == 0) = false := by simp; omega
  go_enter Tryz.func21, Tryz.ntmps21
  go_wp2
  go_ret
  exact ⟨retBl (by first | rfl | simp), by with_reducible (repeat' first | assumption | exact Below.refl _ _ | refine Below.drew ?_ | refine bdrewN ?_ _ | refine Below.setCell ?_ (by first | exact Nat.le_refl _ | (simp; done) | (simp; omega) | omega) _ | refine Below.alloc ?_ (by first | exact Nat.le_refl _ | (simp; done) | (simp; omega) | omega) _)⟩
theorem darg_v (t n : Int) (s : ByteArray) (b : Bool) (c r0 r1 r2 r3 : Int) (ep : Option Addr) (ec : Nat) (w : World) (hr : rz r0 r1 r2 r3 = true) (hn : I64 n) : Calls Tryz.prog 21 #[(.agg #[.bool false, .int .i64 t, .int .i64 n, .string s, .bool b, .int .i64 c, .int .i64 r0, .int .i64 r1, .int .i64 r2, .int .i64 r3, .slice ep 0 ec])] w fun e w' => e = .returned (.bool (mayB t n s b c)) ∧ Below w.heap.size w w' := by
  have hne := eqR r0 r1 r2 r3
  rw [hr] at hne
  go_enter Tryz.func21, Tryz.ntmps21
  go_wp2_with (go_at_call 49; refine (rmayV _ _ _ _ _ _ hn).mono ?_; rintro e wa ⟨rfl, hbwa⟩; have hBwa : Below w.heap.size w wa := bup (by with_reducible (repeat' first | assumption | exact Below.refl _ _ | refine Below.drew ?_ | refine bdrewN ?_ _ | refine Below.setCell ?_ (by first | exact Nat.le_refl _ | (simp; done) | (simp; omega) | omega) _ | refine Below.alloc ?_ (by first | exact Nat.le_refl _ | (simp; done) | (simp; omega) | omega) _)) hbwa; have zwa := hBwa.size; have o0wa : Own wa (w.heap.size) #[.bool false, .int .i64 t, .int .i64 n, .string s, .bool b, .int .i64 c, .int .i64 r0, .int .i64 r1, .int .i64 r2, .int .i64 r3, .slice ep 0 ec] := Own.keep (by with_reducible (repeat' first | assumption | refine Own.drew ?_ | refine Own.drewN ?_ _ | (refine Own.at ?_; first | rfl | (simp; done)) | refine Own.past ?_ _)) hbwa; have c0 := o0wa.cell; have f0 := o0wa.fro; have l0 := o0wa.lt)
  go_ret
  exact ⟨retBl (by first | rfl | simp), by with_reducible (repeat' first | assumption | exact Below.refl _ _ | refine Below.drew ?_ | refine bdrewN ?_ _ | refine Below.setCell ?_ (by first | exact Nat.le_refl _ | (simp; done) | (simp; omega) | omega) _ | refine Below.alloc ?_ (by first | exact Nat.le_refl _ | (simp; done) | (simp; omega) | omega) _)⟩
theorem darg_s (a : Ag) (w : World) (hm : a.many = false) (ha : I64 a.n) : Calls Tryz.prog 21 #[.agg #[.bool false, .int .i64 a.t, .int .i64 a.n, .string a.s, .bool a.b, .int .i64 a.c, .int .i64 a.r0, .int .i64 a.r1, .int .i64 a.r2, .int .i64 a.r3, .slice a.ep a.en a.ec]] w fun e w' => e = .returned (.bool (!nosB a)) ∧ Below w.heap.size w w' := by
  obtain ⟨m, t, n, s, b, c, r0, r1, r2, r3, ep, en, ec⟩ := a
  simp only at hm
  subst hm
  cases hr : rz r0 r1 r2 r3
  · rw [show (!nosB ⟨false, t, n, s, b, c, r0, r1, r2, r3, ep, en, ec⟩) = false by simp [nosB, hr]]
    exact darg_r t n s b c r0 r1 r2 r3 ep en ec w hr
  · by_cases he : 0 < en
    · rw [show (!nosB ⟨false, t, n, s, b, c, r0, r1, r2, r3, ep, en, ec⟩) = false by simp [nosB, hr, he]]
      exact darg_e t n s b c r0 r1 r2 r3 ep en ec w hr he
    · obtain rfl : en = 0 := by omega
      rw [show (!nosB ⟨false, t, n, s, b, c, r0, r1, r2, r3, ep, 0, ec⟩) = mayB t n s b c by simp [nosB, hr]]
      exact darg_v t n s b c r0 r1 r2 r3 ep ec w hr ha
/-- What the document's Arg tells. -/
theorem darg_x (p : Ag × List En) (w : World) (h : AgE w p) : Calls Tryz.prog 21 #[.agg #[.bool p.1.many, .int .i64 p.1.t, .int .i64 p.1.n, .string p.1.s, .bool p.1.b, .int .i64 p.1.c, .int .i64 p.1.r0, .int .i64 p.1.r1, .int .i64 p.1.r2, .int .i64 p.1.r3, .slice p.1.ep p.1.en p.1.ec]] w fun e w' => e = .returned (.bool (!mnB p)) ∧ Below w.heap.size w w' := by
  obtain ⟨a, es⟩ := p
  cases hm : a.many
  · rw [show mnB (a, es) = nosB a by simp [mnB, hm]]
    exact darg_s a w hm h.n
  · exact darg_m a es w hm h.vw h.en (Nat.le_trans h.few (by decide))
/-- What the document's Args tells. -/
def ArgsX (base : Nat) (L : List (Ag × List En)) (e : Ending) (w' : World) : Prop := ∃ mv, e = .returned (.tuple #[mv, .bool (!L.any mnB)]) ∧ Row bcell1 1 4 w' base mv (L.map (·.1.many))
theorem bcell1_size (b : Bool) : (bcell1 b).size = 1 := rfl
theorem bcell1_one (b : Bool) : ∀ u ∈ (bcell1 b).toList, u.oneCell' = true := by intro u hu; simp [bcell1] at hu; subst hu; rfl
theorem any_snoc {α : Type} {p : α → Bool} {l : List α} {i : Nat} {x : α} (h : l[i]? = some x) : (l.take (i + 1)).any p = ((l.take i).any p || p x) := by
  rw [List.take_succ, h, Option.toList_some, List.any_append]; simp
theorem okx_next {L : List (Ag × List En)} {i : Nat} {x : Ag × List En} (h : L[i]? = some x) (h1 : true = !(L.take i).any mnB) : (!mnB x) = !(L.take (i + 1)).any mnB := by
  rw [any_snoc h]
  cases hh : (L.take i).any mnB
  · simp
  · rw [hh] at h1; cases h1
theorem okx_stay {L : List (Ag × List En)} {i : Nat} {x : Ag × List En} (h : L[i]? = some x) (h1 : false = !(L.take i).any mnB) : false = !(L.take (i + 1)).any mnB := by
  rw [any_snoc h]
  cases hh : (L.take i).any mnB
  · rw [hh] at h1; cases h1
  · simp
set_option maxRecDepth 100000 in
set_option maxHeartbeats 1000000 in
theorem argsx_y (w : World) (b o c n : Nat) (L : List (Ag × List En)) (hla : b < w.heap.size) (HA : ∀ i x, L[i]? = some x → ∀ j, j < 11 → w.cell? ⟨b, o + i * 11 + j, none⟩ = (Ag.cells x.1)[j]?) (hn : L.length = n) (hc : n ≤ c) (h0 : 0 < n) (hl : n ≤ 9223372036854775807) (h40 : n ≤ 1099511627776) (hE : Hid (∀ p ∈ L, AgE w p)) :
    Calls Tryz.prog 16 #[.slice (some ⟨b, o, none⟩) n c] w fun e w' => ArgsX w.heap.size L e w' ∧ Below w.heap.size w w' := by
  obtain ⟨i0, hi, hz0, hz1, hz2⟩ := info_parts infoBool
  have HI : Hid _ := hi
  have HZ0 : Hid _ := hz0
  have HZ1 : Hid _ := hz1
  have HZ2 : Hid _ := hz2
  clear hi hz0 hz1 hz2
  have mixed : Tryz.prog.follows .mixedOrders = true := by kernel_rfl
  have HA' : Hid _ := HA
  have HL : Hid (L.length = n) := hn
  clear HA hn
  go_enter Tryz.func16, Tryz.ntmps16
  go_wp2
  go_loopw [4, 5, 6] (fun u v j w' => ∃ (i : Nat) (ok : Bool), j = .int .i64 i ∧ v = .bool ok ∧ i ≤ n ∧ Hid (Row bcell1 1 4 w' w.heap.size u ((L.take i).map (·.1.many))) ∧ Hid (ok = !(L.take i).any mnB) ∧ Below w.heap.size w w') (fun _ _ j _ => n - (intOf j).toNat)
  case atStart => exact ⟨0, true, rfl, rfl, by omega, Row.nil _ _, (show Hid _ from rfl), Below.refl _ _⟩
  case round =>
    obtain ⟨i, ok, rfl, rfl, hii, HR, hok, hB3⟩ := hrel
    have z3 := hB3.size
    by_cases hlt : i < n
    · have hlt' : (i : Int) < n := by omega
      have hai : L[i]? = some (L[i]'(by rw [HL.out]; exact hlt)) := List.getElem?_eq_getElem _
      have ca' := fun j hj => (show w.cell? ⟨b, o + i * 11 + j, none⟩ = _ from HA'.out i _ hai j hj)
      have HAi : Hid _ := hai
      revert ca' HAi
      generalize (L[i]'(by rw [HL.out]; exact hlt)) = x
      intro ca' HAi
      clear hai
      have yy0 : w.cell? ⟨b, o + i * 11, none⟩ = some (.bool x.1.many) := ca' 0 (by decide)
      have yy1 : w.cell? ⟨b, o + i * 11 + 1, none⟩ = some (.int .i64 x.1.t) := ca' 1 (by decide)
      have yy2 : w.cell? ⟨b, o + i * 11 + 2, none⟩ = some (.int .i64 x.1.n) := ca' 2 (by decide)
      have yy3 : w.cell? ⟨b, o + i * 11 + 3, none⟩ = some (.string x.1.s) := ca' 3 (by decide)
      have yy4 : w.cell? ⟨b, o + i * 11 + 4, none⟩ = some (.bool x.1.b) := ca' 4 (by decide)
      have yy5 : w.cell? ⟨b, o + i * 11 + 5, none⟩ = some (.int .i64 x.1.c) := ca' 5 (by decide)
      have yy6 : w.cell? ⟨b, o + i * 11 + 6, none⟩ = some (.int .i64 x.1.r0) := ca' 6 (by decide)
      have yy7 : w.cell? ⟨b, o + i * 11 + 7, none⟩ = some (.int .i64 x.1.r1) := ca' 7 (by decide)
      have yy8 : w.cell? ⟨b, o + i * 11 + 8, none⟩ = some (.int .i64 x.1.r2) := ca' 8 (by decide)
      have yy9 : w.cell? ⟨b, o + i * 11 + 9, none⟩ = some (.int .i64 x.1.r3) := ca' 9 (by decide)
      have yy10 : w.cell? ⟨b, o + i * 11 + 10, none⟩ = some (.slice x.1.ep x.1.en x.1.ec) := ca' 10 (by decide)
      clear ca'
      have x0 := yy0
      have x1 := yy1
      have x2 := yy2
      have x3 := yy3
      have x4 := yy4
      have x5 := yy5
      have x6 := yy6
      have x7 := yy7
      have x8 := yy8
      have x9 := yy9
      have x10 := yy10
      clear yy0 yy1 yy2 yy3 yy4 yy5 yy6 yy7 yy8 yy9 yy10
      have u0 := (hB3.cell (p := ⟨b, o + i * 11, none⟩) hla).trans x0
      obtain ⟨up, uc, rfl, _, _⟩ := Row.slice HR.out
      have HO : Hid (wr.ownsRow w.heap.size 4 1 (.slice up ((L.take i).map (·.1.many)).length uc) ((L.take i).map (·.1.many)).length (flatC bcell1 ((L.take i).map (·.1.many)))) := HR.out
      cases ok
      · go_wp2_with (at_builtin; refine wpList_append_own _ rfl _ _ 30 rfl w.heap.size 4 i0 _ 1 1 Tryz.underlying30 HI.out HZ0.out HZ1.out HZ2.out rfl (by decide) _ _ _ rfl (HO.out.alloc _) ⟨wr.heap.size, 0, none⟩ 1 1 (bcell1 x.1.many).toList rfl rfl (by exact news_pl _ _ _) (bcell1_one _) (by rw [List.length_map, List.length_take]; unfold maxLen; omega) (by rw [List.length_map, List.length_take]; omega) (by rw [World.size_alloc]; omega) ?_; intro v' w1 hown' hgrow _; have R := app_rowv (t := x.1.many) (hB3.alloc (by omega) _) HR.out hown' hgrow; rw [take_map HAi.out] at R; have hB4 := R.2; have z4 := hB4.size; have HR4 : Hid _ := R.1; clear R hown' hgrow; skip)
        exact ⟨⟨i + 1, false, by go_num, rfl, by omega, HR4, (show Hid _ from okx_stay HAi.out hok.out), by with_reducible (repeat' first | assumption | exact Below.refl _ _ | refine Below.drew ?_ | refine bdrewN ?_ _ | refine Below.setCell ?_ (by first | exact Nat.le_refl _ | (simp; done) | (simp; omega) | omega) _ | refine Below.alloc ?_ (by first | exact Nat.le_refl _ | (simp; done) | (simp; omega) | omega) _)⟩, by simp [intOf]; omega⟩
      · go_wp2_with (first | (at_builtin; refine wpList_append_own _ rfl _ _ 30 rfl w.heap.size 4 i0 _ 1 1 Tryz.underlying30 HI.out HZ0.out HZ1.out HZ2.out rfl (by decide) _ _ _ rfl (HO.out.alloc _) ⟨wr.heap.size, 0, none⟩ 1 1 (bcell1 x.1.many).toList rfl rfl (by exact news_pl _ _ _) (bcell1_one _) (by rw [List.length_map, List.length_take]; unfold maxLen; omega) (by rw [List.length_map, List.length_take]; omega) (by rw [World.size_alloc]; omega) ?_; intro v' w1 hown' hgrow _; have R := app_rowv (t := x.1.many) (hB3.alloc (by omega) _) HR.out hown' hgrow; rw [take_map HAi.out] at R; have hB4 := R.2; have z4 := hB4.size; have HR4 : Hid _ := R.1; clear R hown' hgrow; have y0 := (hB4.cell (p := ⟨b, o + i * 11, none⟩) hla).trans x0; have y1 := (hB4.cell (p := ⟨b, o + i * 11 + 1, none⟩) hla).trans x1; have y2 := (hB4.cell (p := ⟨b, o + i * 11 + 2, none⟩) hla).trans x2; have y3 := (hB4.cell (p := ⟨b, o + i * 11 + 3, none⟩) hla).trans x3; have y4 := (hB4.cell (p := ⟨b, o + i * 11 + 4, none⟩) hla).trans x4; have y5 := (hB4.cell (p := ⟨b, o + i * 11 + 5, none⟩) hla).trans x5; have y6 := (hB4.cell (p := ⟨b, o + i * 11 + 6, none⟩) hla).trans x6; have y7 := (hB4.cell (p := ⟨b, o + i * 11 + 7, none⟩) hla).trans x7; have y8 := (hB4.cell (p := ⟨b, o + i * 11 + 8, none⟩) hla).trans x8; have y9 := (hB4.cell (p := ⟨b, o + i * 11 + 9, none⟩) hla).trans x9; have y10 := (hB4.cell (p := ⟨b, o + i * 11 + 10, none⟩) hla).trans x10) | (go_at_call 21; refine (darg_x x _ ((hE.out _ (List.mem_of_getElem? HAi.out)).keep hB4)).mono ?_; rintro e w2 ⟨rfl, hb2⟩; have hB5 : Below w.heap.size w w2 := bup (by with_reducible (repeat' first | assumption | exact Below.refl _ _ | refine Below.drew ?_ | refine bdrewN ?_ _ | refine Below.setCell ?_ (by first | exact Nat.le_refl _ | (simp; done) | (simp; omega) | omega) _ | refine Below.alloc ?_ (by first | exact Nat.le_refl _ | (simp; done) | (simp; omega) | omega) _)) hb2; have HR5 : Hid _ := Row.keep HR4.out hb2))
        exact ⟨⟨i + 1, !mnB x, by go_num, rfl, by omega, HR5, (show Hid _ from okx_next HAi.out hok.out), by with_reducible (repeat' first | assumption | exact Below.refl _ _ | refine Below.drew ?_ | refine bdrewN ?_ _ | refine Below.setCell ?_ (by first | exact Nat.le_refl _ | (simp; done) | (simp; omega) | omega) _ | refine Below.alloc ?_ (by first | exact Nat.le_refl _ | (simp; done) | (simp; omega) | omega) _)⟩, by simp [intOf]; omega⟩
    · have hlt' : ¬ (i : Int) < n := by omega
      have hil : L.take i = L := List.take_of_length_le (by rw [HL.out]; omega)
      have q1 := HR.out
      have q2 := hok.out
      rw [hil] at q1 q2
      have Q2 : Hid _ := q2
      clear HR hok q2
      go_wp2
      exact bodyPost_ret (v := .tuple #[u4, .bool ok]) (by simp [results, Tryz.results16, go_sem]) rfl ⟨⟨u4, by rw [Q2.out], q1⟩, by with_reducible (repeat' first | assumption | exact Below.refl _ _ | refine Below.drew ?_ | refine bdrewN ?_ _ | refine Below.setCell ?_ (by first | exact Nat.le_refl _ | (simp; done) | (simp; omega) | omega) _ | refine Below.alloc ?_ (by first | exact Nat.le_refl _ | (simp; done) | (simp; omega) | omega) _)⟩
theorem argsx_0 (w : World) (p : Option Addr) (c : Nat) : Calls Tryz.prog 16 #[.slice p 0 c] w fun e w' => ArgsX w.heap.size [] e w' ∧ Below w.heap.size w w' := by
  go_enter Tryz.func16, Tryz.ntmps16
  go_wp2
  go_loopw [4, 5, 6] (fun u v j w' => u = .slice none 0 0 ∧ v = .bool true ∧ j = .int .i64 0 ∧ w' = w) (fun _ _ _ _ => 0)
  case atStart => exact ⟨rfl, rfl, rfl, rfl⟩
  case round =>
    obtain ⟨rfl, rfl, rfl, rfl⟩ := hrel
    go_wp2
    exact bodyPost_ret (v := .tuple #[.slice none 0 0, .bool true]) (by simp [results, Tryz.results16, go_sem]) rfl ⟨⟨_, rfl, Row.nil _ _⟩, Below.refl _ _⟩
theorem argsx_any (w : World) (v : Value) (L : List (Ag × List En)) (h : AV w v (L.map Prod.fst)) (hl : L.length ≤ 1099511627776) (hE : Hid (∀ p ∈ L, AgE w p)) : Calls Tryz.prog 16 #[v] w fun e w' => ArgsX w.heap.size L e w' ∧ Below w.heap.size w w' := by
  obtain ⟨p, c, rfl, hc, hf⟩ := h
  rw [List.length_map] at hc hf
  rw [List.length_map]
  by_cases h0 : 0 < L.length
  · obtain ⟨b, o, rfl, hlt, HA⟩ := hf h0
    exact argsx_y w b o c L.length L hlt (fun i x hx j hj => HA i x.1 (by rw [List.getElem?_map, hx]; rfl) j hj) rfl hc h0 (by omega) hl hE
  · have e : L = [] := List.eq_nil_of_length_eq_zero (by omega)
    subst e
    exact argsx_0 w p c
end Go.Proofs.YtcgcnpcimfaecaaGreatDoor
namespace Go.Proofs.YtcgcnpcimfaecaaGreatDoor
open Go.RowKit
set_option linter.all false
/-- Is there a fault among arguments? -/
def fltP (p : Ag × List En) : Bool := p.1.t == 4 || p.2.any (fun x => x.t == 4)
def fltB (L : List (Ag × List En)) : Bool := L.any fltP
theorem itms_perm {L M : List (Ag × List En)} (h : L.Perm M) : (itms L).Perm (itms M) := h.flatMap_right itP
theorem numsI_perm {a b : List It} (h : a.Perm b) : (numsI a).Perm (numsI b) := (h.filter _).map _
theorem filI_perm {a b : List It} (h : a.Perm b) : filI a = filI b := (h.filter _).length_eq
theorem itms_rev (L : List (Ag × List En)) : (itms L.reverse).Perm (itms L) := itms_perm (List.reverse_perm L)
theorem itms_tot : ∀ (L : List (Ag × List En)), (itms L).length ≤ Oa.tot L
  | [] => Nat.le_refl _
  | p :: L => by
    have ih := itms_tot L
    unfold itms at ih ⊢
    rw [List.flatMap_cons, List.length_append]
    have h : (itP p).length ≤ p.2.length + 1 := by
      unfold itP
      rw [List.length_append, List.length_map]
      split <;> simp
      omega
    unfold Oa.tot at ih ⊢
    rw [List.map_cons, List.sum_cons]
    omega
theorem Oa.mem_tot {L : List (Ag × List En)} {p : Ag × List En} (h : p ∈ L) : p.2.length + 1 ≤ Oa.tot L := by
  induction L with
  | nil => cases h
  | cons q L ih =>
    have e : Oa.tot (q :: L) = q.2.length + 1 + Oa.tot L := by unfold Oa.tot; rw [List.map_cons, List.sum_cons]
    rcases List.mem_cons.1 h with h | h
    · subst h; omega
    · have := ih h; omega
theorem flt_first {L : List (Ag × List En)} (h : fltB L = false) : firstF (L.map Prod.fst) = none ∧ firstI (itms L) = none := by
  have h1 : ∀ p ∈ L, fltP p = false := fun p hp => by
    cases e : fltP p
    · rfl
    · rw [show fltB L = true from List.any_eq_true.2 ⟨p, hp, e⟩] at h; cases h
  constructor
  · unfold firstF
    rw [List.find?_eq_none]
    intro a ha
    obtain ⟨p, hp, rfl⟩ := List.mem_map.1 ha
    have := h1 p hp
    unfold fltP at this
    rw [Bool.or_eq_false_iff] at this
    rw [this.1]
    simp
  · unfold firstI
    rw [List.find?_eq_none]
    intro x hx
    obtain ⟨p, hp, hx⟩ := List.mem_flatMap.1 hx
    have := h1 p hp
    unfold fltP at this
    rw [Bool.or_eq_false_iff] at this
    unfold itP at hx
    rw [List.mem_append] at hx
    rcases hx with hx | hx
    · have e : x = itA p.1 := by
        revert hx
        cases p.1.many <;> simp
      subst e
      show ¬ (p.1.t == 4) = true
      rw [this.1]; simp
    · obtain ⟨y, hy, rfl⟩ := List.mem_map.1 hx
      have hn := List.any_eq_false.1 this.2 y hy
      exact hn
theorem flt_rev {L : List (Ag × List En)} : fltB L.reverse = fltB L := List.any_reverse
theorem gd_of {W : World} {v : Value} {L : List (Ag × List En)} (hv : AV W v (L.map Prod.fst)) (hE : ∀ p ∈ L, AgE W p) (h0 : 0 < L.length) (h16 : L.length ≤ 16) (hm : L.any mnB = false) (hf : fltB L = false) (ht : Oa.tot L ≤ 1048576) : Gd W v L :=
  ⟨hv, hE, h0, h16, hm, (flt_first hf).1, (flt_first hf).2, by have := itms_tot L; omega⟩
theorem tot_rev (L : List (Ag × List En)) : Oa.tot L.reverse = Oa.tot L := by
  unfold Oa.tot
  exact ((List.reverse_perm L).map _).sum_nat
theorem gd_rev {W : World} {v : Value} {L : List (Ag × List En)} (hv : AV W v (L.reverse.map Prod.fst)) (hE : ∀ p ∈ L, AgE W p) (h0 : 0 < L.length) (h16 : L.length ≤ 16) (hm : L.any mnB = false) (hf : fltB L = false) (ht : Oa.tot L ≤ 1048576) : Gd W v L.reverse :=
  gd_of hv (fun p hp => hE p (List.mem_reverse.1 hp)) (by rw [List.length_reverse]; exact h0) (by rw [List.length_reverse]; exact h16) (by rw [List.any_reverse]; exact hm) (by rw [flt_rev]; exact hf) (by rw [tot_rev]; exact ht)
/-- The names of the law's list. -/
def odS (k : Nat) : ByteArray := match k with | 0 => ⟨#[83, 85, 77]⟩ | 1 => ⟨#[77, 73, 78]⟩ | 2 => ⟨#[77, 65, 88]⟩ | 3 => ⟨#[65, 86, 71]⟩ | 4 => ⟨#[77, 69, 68, 73, 65, 78]⟩ | 5 => ⟨#[67, 79, 85, 78, 84]⟩ | _ => ⟨#[67, 79, 85, 78, 84, 65]⟩
/-- What each of them answers: tag, number, code. -/
def odT (k : Nat) (L : List (Ag × List En)) : Int := if L = [] then 4 else match k with | 0 => smT (numsI (itms L)).sum | 1 => svT (numsI (itms L)) | 2 => svT (numsI (itms L)) | 3 => svT (numsI (itms L)) | 4 => svT (numsI (itms L)) | _ => 1
def odN (k : Nat) (L : List (Ag × List En)) : Int := if L = [] then 0 else match k with | 0 => smN (numsI (itms L)).sum | 1 => svN mnL (numsI (itms L)) | 2 => svN mxL (numsI (itms L)) | 3 => svN avgL (numsI (itms L)) | 4 => svN medL (numsI (itms L)) | 5 => ((numsI (itms L)).length : Int) * 10000 | _ => (filI (itms L) : Int) * 10000
def odC (k : Nat) (L : List (Ag × List En)) : Int := if L = [] then 8 else match k with | 0 => smC (numsI (itms L)).sum | 1 => svC (numsI (itms L)) | 2 => svC (numsI (itms L)) | 3 => svC (numsI (itms L)) | 4 => svC (numsI (itms L)) | _ => 0
theorem sv_perm {a b : List Int} (h : a.Perm b) : svT a = svT b ∧ svC a = svC b ∧ svN mnL a = svN mnL b ∧ svN mxL a = svN mxL b ∧ svN avgL a = svN avgL b ∧ svN medL a = svN medL b := by
  have e : (a = []) ↔ (b = []) := ⟨fun x => by subst x; exact h.nil_eq.symm, fun x => by subst x; exact h.symm.nil_eq.symm⟩
  unfold svT svC svN
  simp only [e, perm_mn h, perm_mx h, perm_avg h, perm_med h]
  simp
theorem od_rev (k : Nat) (L : List (Ag × List En)) : odT k L.reverse = odT k L ∧ odN k L.reverse = odN k L ∧ odC k L.reverse = odC k L := by
  have p := numsI_perm (itms_rev L)
  have f := filI_perm (itms_rev L)
  obtain ⟨h1, h2, h3, h4, h5, h6⟩ := sv_perm p
  have hs := perm_sum p
  have hl := p.length_eq
  unfold odT odN odC
  simp only [List.reverse_eq_nil_iff, hs, hl, f, h1, h2, h3, h4, h5, h6]
  simp
/-- The law's two lists of arguments, as they stand. -/
def OkG (L : List (Ag × List En)) (W : World) (g : Value) : Prop := (L = [] ∧ ∃ q c, g = .slice q 0 c) ∨ Gd W g L ∨ Gd W g L.reverse
theorem OkG.keep {L : List (Ag × List En)} {W W' : World} {g : Value} (h : OkG L W g) (hb : Below W.heap.size W W') : OkG L W' g := by
  rcases h with h | h | h
  · exact Or.inl h
  · exact Or.inr (Or.inl (h.keep hb))
  · exact Or.inr (Or.inr (h.keep hb))
theorem od_gd (k : Nat) (hk : k < 7) {W : World} {v : Value} {L : List (Ag × List En)} (g : Gd W v L) : Calls Tryz.prog 9 #[.string (odS k), v, .int .i64 0] W fun e w' => e = .returned (.agg #[.int .i64 (odT k L), .int .i64 (odN k L), .string ⟨#[]⟩, .bool false, .int .i64 (odC k L)]) ∧ Below W.heap.size W w' := by
  have hL : ¬ L = [] := fun e => by have := g.h0; rw [e] at this; exact absurd this (by decide)
  unfold odT odN odC
  rw [if_neg hL, if_neg hL, if_neg hL]
  match k, hk with
  | 0, _ => exact sum_all g
  | 1, _ => exact min_all g
  | 2, _ => exact max_all g
  | 3, _ => exact avg_all g
  | 4, _ => exact median_all g
  | 5, _ => exact count_all g
  | 6, _ => exact counta_all g
theorem od_nil (k : Nat) (hk : k < 7) (W : World) (q : Option Addr) (c : Nat) : Calls Tryz.prog 9 #[.string (odS k), .slice q 0 c, .int .i64 0] W fun e w' => e = .returned (.agg #[.int .i64 (4), .int .i64 (0), .string ⟨#[]⟩, .bool false, .int .i64 (8)]) ∧ Below W.heap.size W w' := by
  have hv : AV W (.slice q 0 c) (([] : List (Ag × List En)).map Prod.fst) := ⟨q, c, rfl, Nat.zero_le _, fun h => absurd h (Nat.lt_irrefl _)⟩
  have h1 : nmI (odS k) < 18 ∧ takB (plI (nmI (odS k))) (moI (nmI (odS k))) [] = false := by
    match k, hk with
    | 0, _ => exact ⟨by decide, by decide⟩
    | 1, _ => exact ⟨by decide, by decide⟩
    | 2, _ => exact ⟨by decide, by decide⟩
    | 3, _ => exact ⟨by decide, by decide⟩
    | 4, _ => exact ⟨by decide, by decide⟩
    | 5, _ => exact ⟨by decide, by decide⟩
    | 6, _ => exact ⟨by decide, by decide⟩
  exact c_tk (odS k) W _ 0 [] hv (show Hid _ from fun a ha => by cases ha) (by decide) (show Hid _ from fun p hp => by cases hp) h1.1 (by decide) (by decide) h1.2
theorem od_call (k : Nat) (hk : k < 7) {W : World} {v : Value} {L : List (Ag × List En)} (g : OkG L W v) : Calls Tryz.prog 9 #[.string (odS k), v, .int .i64 0] W fun e w' => e = .returned (.agg #[.int .i64 (odT k L), .int .i64 (odN k L), .string ⟨#[]⟩, .bool false, .int .i64 (odC k L)]) ∧ Below W.heap.size W w' := by
  rcases g with ⟨rfl, q, c, rfl⟩ | g | g
  · exact od_nil k hk W q c
  · exact od_gd k hk g
  · have h := od_gd k hk g
    rw [(od_rev k L).1, (od_rev k L).2.1, (od_rev k L).2.2] at h
    exact h
theorem flt_none {L : List (Ag × List En)} {i : Nat} {x : Ag × List En} (h : L[i]? = some x) (h1 : fltB (L.take i) = false) (h2 : fltP x = false) : fltB (L.take (i + 1)) = false := by
  unfold fltB at h1 ⊢
  rw [any_snoc h, h1, h2]; rfl
theorem flt_some {L : List (Ag × List En)} {i : Nat} {x : Ag × List En} (h : L[i]? = some x) (h2 : fltP x = true) : fltB L = true := List.any_eq_true.2 ⟨x, List.mem_of_getElem? h, h2⟩
theorem en_some {x : Ag × List En} {k : Nat} {y : En} (h : x.2[k]? = some y) (h2 : y.t = 4) : fltP x = true := by
  unfold fltP
  rw [show x.2.any (fun x => x.t == 4) = true from List.any_eq_true.2 ⟨y, List.mem_of_getElem? h, by simp [h2]⟩, Bool.or_true]
theorem en_none {es : List En} {k : Nat} {y : En} (h : es[k]? = some y) (h1 : (es.take k).any (fun x => x.t == 4) = false) (h2 : ¬ y.t = 4) : (es.take (k + 1)).any (fun x => x.t == 4) = false := by
  rw [any_snoc h, h1]
  simp [h2]
set_option maxRecDepth 100000 in
set_option maxHeartbeats 1000000 in
theorem faulty_y (w : World) (b o c n : Nat) (L : List (Ag × List En)) (HA : ∀ i x, L[i]? = some x → ∀ j, j < 11 → w.cell? ⟨b, o + i * 11 + j, none⟩ = (Ag.cells x.1)[j]?) (hn : L.length = n) (hc : n ≤ c) (hl : n ≤ 9223372036854775807) (hE : Hid (∀ p ∈ L, AgE w p)) :
    Calls Tryz.prog 17 #[.slice (some ⟨b, o, none⟩) n c] w fun e w' => e = .returned (.bool (fltB L)) ∧ Below w.heap.size w w' := by
  have HA' : Hid _ := HA
  have HL : Hid (L.length = n) := hn
  clear HA hn
  go_enter Tryz.func17, Tryz.ntmps17
  go_wp2
  go_loop [3] (fun j => ∃ (i : Nat), j = .int .i64 i ∧ i ≤ n ∧ Hid (fltB (L.take i) = false)) (fun j => n - (intOf j).toNat)
  case atStart => exact ⟨0, rfl, by omega, (show Hid _ from rfl)⟩
  case round =>
    obtain ⟨i, rfl, hii, hf⟩ := hrel
    by_cases hlt : i < n
    · have hlt' : (i : Int) < n := by omega
      have hai : L[i]? = some (L[i]'(by rw [HL.out]; exact hlt)) := List.getElem?_eq_getElem _
      have hag := hE.out _ (List.mem_of_getElem? hai)
      have x1 : w.cell? ⟨b, o + i * 11 + 1, none⟩ = _ := HA'.out i _ hai 1 (by decide)
      have x10 : w.cell? ⟨b, o + i * 11 + 10, none⟩ = _ := HA'.out i _ hai 10 (by decide)
      have HAi : Hid _ := hai
      have HG : Hid _ := hag
      revert x1 x10 HAi HG
      clear hai hag
      generalize (L[i]'(by rw [HL.out]; exact hlt)) = x
      intro x1 x10 HAi HG
      have y1 : w.cell? ⟨b, o + i * 11 + 1, none⟩ = some (.int .i64 x.1.t) := x1
      have y10 : w.cell? ⟨b, o + i * 11 + 10, none⟩ = some (.slice x.1.ep x.1.en x.1.ec) := x10
      clear x1 x10
      by_cases ht : x.1.t = 4
      · have HT : Hid (fltP x = true) := (show _ from by unfold fltP; rw [ht]; rfl)
        rw [ht] at y1
        clear ht
        go_wp2
        go_ret
        exact ⟨retBl (flt_some HAi.out HT.out).symm, Below.refl _ _⟩
      · have ht' : (x.1.t == 4) = false := by simpa using ht
        have HT : Hid (¬ x.1.t = 4) := ht
        clear ht
        go_wp2
        go_loop [4] (fun j => ∃ (k : Nat), j = .int .i64 k ∧ k ≤ x.1.en ∧ Hid ((x.2.take k).any (fun x => x.t == 4) = false)) (fun j => x.1.en - (intOf j).toNat)
        case atStart => exact ⟨0, rfl, by omega, (show Hid _ from rfl)⟩
        case round =>
          obtain ⟨k, rfl, hkk, hg⟩ := hrel
          obtain ⟨p, cap, e0, hcap, hfe⟩ := HG.out.vw
          injection e0 with e1 e2 e3
          have hl2 := HG.out.few
          by_cases hlk : k < x.1.en
          · have hlk' : (k : Int) < x.1.en := by omega
            obtain ⟨eb, eo, hp, hla, hcell⟩ := hfe (by omega)
            rw [e1, hp] at y10
            have hek : x.2[k]? = some (x.2[k]'(by omega)) := List.getElem?_eq_getElem _
            have z2 : w.cell? ⟨eb, eo + k * 7 + 2, none⟩ = _ := hcell k _ hek 2 (by decide)
            have HEk : Hid _ := hek
            revert z2 HEk
            clear hek hcell hfe
            generalize (x.2[k]'(by omega)) = y
            intro z2 HEk
            have z2' : w.cell? ⟨eb, eo + k * 7 + 2, none⟩ = some (.int .i64 y.t) := z2
            clear z2
            have hc1 : x.1.en ≤ x.1.ec := by omega
            have h40 : x.1.en ≤ 1099511627776 := by omega
            clear e1 e2 e3 hp hl2 hcap hla
            by_cases hy : y.t = 4
            · have HY : Hid (fltP x = true) := (show _ from en_some HEk.out hy)
              rw [hy] at z2'
              clear hy
              go_wp2
              go_ret
              exact ⟨retBl (flt_some HAi.out HY.out).symm, Below.refl _ _⟩
            · have hy' : (y.t == 4) = false := by simpa using hy
              have HY : Hid (¬ y.t = 4) := hy
              clear hy
              go_wp2
              exact ⟨⟨k + 1, by go_num, by omega, (show Hid _ from en_none HEk.out hg.out HY.out)⟩, by simp [intOf]; omega⟩
          · have hlk' : ¬ (k : Int) < x.1.en := by omega
            have q : x.2.take k = x.2 := List.take_of_length_le (by omega)
            have HP : Hid (fltP x = false) := (show _ from by unfold fltP; have := hg.out; rw [q] at this; rw [this, ht']; rfl)
            clear e1 e2 e3 hfe
            go_wp2
            exact ⟨⟨i + 1, by go_num, by omega, (show Hid _ from flt_none HAi.out hf.out HP.out)⟩, by simp [intOf]; omega⟩
    · have hlt' : ¬ (i : Int) < n := by omega
      have q : L.take i = L := List.take_of_length_le (by rw [HL.out]; omega)
      have hq := hf.out
      rw [q] at hq
      clear hf
      have HQ : Hid _ := hq
      clear hq
      go_wp2
      go_ret
      exact ⟨retBl HQ.out.symm, Below.refl _ _⟩
theorem faulty_0 (w : World) (p : Option Addr) (c : Nat) : Calls Tryz.prog 17 #[.slice p 0 c] w fun e w' => e = .returned (.bool false) ∧ Below w.heap.size w w' := by
  go_enter Tryz.func17, Tryz.ntmps17
  go_wp2
  go_loop [3] (fun j => j = .int .i64 0) (fun _ => 0)
  case atStart => rfl
  case round =>
    obtain rfl := hrel
    go_wp2
    go_ret
    exact ⟨rfl, Below.refl _ _⟩
theorem faulty_any (w : World) (v : Value) (L : List (Ag × List En)) (h : AV w v (L.map Prod.fst)) (hl : L.length ≤ 1099511627776) (hE : Hid (∀ p ∈ L, AgE w p)) : Calls Tryz.prog 17 #[v] w fun e w' => e = .returned (.bool (fltB L)) ∧ Below w.heap.size w w' := by
  obtain ⟨p, c, rfl, hc, hf⟩ := h
  rw [List.length_map] at hc hf
  rw [List.length_map]
  by_cases h0 : 0 < L.length
  · obtain ⟨b, o, rfl, hlt, HA⟩ := hf h0
    exact faulty_y w b o c L.length L (fun i x hx j hj => HA i x.1 (by rw [List.getElem?_map, hx]; rfl) j hj) rfl hc (by omega) hE
  · have e : L = [] := List.eq_nil_of_length_eq_zero (by omega)
    subst e
    exact faulty_0 w p c
end Go.Proofs.YtcgcnpcimfaecaaGreatDoor
