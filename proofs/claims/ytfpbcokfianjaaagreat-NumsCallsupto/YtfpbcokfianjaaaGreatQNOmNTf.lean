/- The contract of the document's Args: which arguments are rectangles, and, where none is, whether all may be. New memory alone is made. The condition: each argument's entries lie as they were read; at most 2^40 arguments. · The contracts of the document's Wants, Known and Takes. Nothing is written. -/
import Derived.Test.YtfpbcokfianjaaaGreatQNOkNOl
import Derived.Test.YtfpbcokfianjaaaGreatQNTdNTe
import Derived.Test.YtfpbcokfianjaaaGreatQNTaNT9
namespace Go.Proofs.YtfpbcokfianjaaaGreat
open Go.RowKit
set_option linter.all false
theorem EV.keep {w w' : World} {a : Ag} (h : EV w a) (hb : Below w.heap.size w w') : EV w' a := by
  obtain ⟨es, h1, h2, h3⟩ := h
  exact ⟨es, h1.keep hb, h2, h3⟩
/-- What the document's Arg tells: of a single one whether it may be. -/
theorem darg_any (a : Ag) (w : World) (hE : EV w a) (hn : I64 a.n) : Calls Tryz.prog 31 #[.agg #[.bool a.many, .int .i64 a.t, .int .i64 a.n, .string a.s, .bool a.b, .int .i64 a.c, .int .i64 a.r0, .int .i64 a.r1, .int .i64 a.r2, .int .i64 a.r3, .slice a.ep a.en a.ec]] w fun e w' => (∃ B : Bool, e = .returned (.bool B) ∧ (a.many = false → B = !nosB a)) ∧ Below w.heap.size w w' := by
  cases hm : a.many
  · exact (darg_s a w hm hn).mono fun e w' ⟨h1, h2⟩ => ⟨⟨_, h1, fun _ => rfl⟩, h2⟩
  · exact (darg_m a w hE).mono fun e w' ⟨⟨B, h1⟩, h2⟩ => ⟨⟨B, h1, fun h => by cases h⟩, h2⟩
/-- What the document's Args tells. -/
def ArgsP (base : Nat) (l : List Ag) (e : Ending) (w' : World) : Prop := ∃ mv ok, e = .returned (.tuple #[mv, .bool ok]) ∧ Row bcell1 1 4 w' base mv (l.map (·.many)) ∧ (l.any (·.many) = false → ok = !l.any nosB)
theorem infoBool : (Tryz.prog.info? 4).map (fun i => (i.zero, i.size, i.bytes)) = some (some (.bool false), 1, 1) := by kernel_rfl
theorem bcell1_size (b : Bool) : (bcell1 b).size = 1 := rfl
theorem bcell1_one (b : Bool) : ∀ u ∈ (bcell1 b).toList, u.oneCell' = true := by intro u hu; simp [bcell1] at hu; subst hu; rfl
theorem any_snoc {α : Type} {p : α → Bool} {l : List α} {i : Nat} {x : α} (h : l[i]? = some x) : (l.take (i + 1)).any p = ((l.take i).any p || p x) := by
  rw [List.take_succ, h, Option.toList_some, List.any_append]; simp
theorem ok_next {l : List Ag} {i : Nat} {x : Ag} (h : l[i]? = some x) {B : Bool} (h1 : (l.take i).any (·.many) = false → true = !(l.take i).any nosB) (h2 : x.many = false → B = !nosB x) : (l.take (i + 1)).any (·.many) = false → B = !(l.take (i + 1)).any nosB := by
  rw [any_snoc h, any_snoc h]
  intro q
  rw [Bool.or_eq_false_iff] at q
  have q1 := h1 q.1
  have q2 := h2 q.2
  rw [q2]
  cases hh : (l.take i).any nosB
  · simp
  · rw [hh] at q1; cases q1
theorem ok_stay {l : List Ag} {i : Nat} {x : Ag} (h : l[i]? = some x) (h1 : (l.take i).any (·.many) = false → false = !(l.take i).any nosB) : (l.take (i + 1)).any (·.many) = false → false = !(l.take (i + 1)).any nosB := by
  rw [any_snoc h, any_snoc h]
  intro q
  rw [Bool.or_eq_false_iff] at q
  have q1 := h1 q.1
  cases hh : (l.take i).any nosB
  · rw [hh] at q1; cases q1
  · simp
set_option maxRecDepth 100000 in
set_option maxHeartbeats 1000000 in
theorem args_y (w : World) (b o c n : Nat) (l : List Ag) (hla : b < w.heap.size) (HA : ∀ i x, l[i]? = some x → ∀ j, j < 11 → w.cell? ⟨b, o + i * 11 + j, none⟩ = (Ag.cells x)[j]?) (hn : l.length = n) (hc : n ≤ c) (h0 : 0 < n) (hl : n ≤ 9223372036854775807) (hN : Hid (Nums l)) (h40 : n ≤ 1099511627776) (hE : Hid (∀ a ∈ l, EV w a)) :
    Calls Tryz.prog 12 #[.slice (some ⟨b, o, none⟩) n c] w fun e w' => ArgsP w.heap.size l e w' ∧ Below w.heap.size w w' := by
  obtain ⟨i0, hi, hz0, hz1, hz2⟩ := info_parts infoBool
  have HI : Hid _ := hi
  have HZ0 : Hid _ := hz0
  have HZ1 : Hid _ := hz1
  have HZ2 : Hid _ := hz2
  clear hi hz0 hz1 hz2
  have mixed : Tryz.prog.follows .mixedOrders = true := by kernel_rfl
  have HA' : Hid _ := HA
  have HL : Hid (l.length = n) := hn
  clear HA hn
  go_enter Tryz.func12, Tryz.ntmps12
  go_wp2
  go_loopw [4, 5, 6] (fun u v j w' => ∃ (i : Nat) (ok : Bool), j = .int .i64 i ∧ v = .bool ok ∧ i ≤ n ∧ Hid (Row bcell1 1 4 w' w.heap.size u ((l.take i).map (·.many))) ∧ Hid ((l.take i).any (·.many) = false → ok = !(l.take i).any nosB) ∧ Below w.heap.size w w') (fun _ _ j _ => n - (intOf j).toNat)
  case atStart => exact ⟨0, true, rfl, rfl, by omega, Row.nil _ _, (show Hid _ from fun _ => rfl), Below.refl _ _⟩
  case round =>
    obtain ⟨i, ok, rfl, rfl, hii, HR, hok, hB3⟩ := hrel
    have z3 := hB3.size
    by_cases hlt : i < n
    · have hlt' : (i : Int) < n := by omega
      have hai : l[i]? = some (l[i]'(by rw [HL.out]; exact hlt)) := List.getElem?_eq_getElem _
      have ca' := fun j hj => (show w.cell? ⟨b, o + i * 11 + j, none⟩ = _ from HA'.out i _ hai j hj)
      have hin : I64 (l[i]'(by rw [HL.out]; exact hlt)).n := hN.out _ (List.getElem_mem _)
      have HAi : Hid _ := hai
      revert ca' HAi hin
      generalize (l[i]'(by rw [HL.out]; exact hlt)) = x
      intro ca' hin HAi
      clear hai
      have yy0 : w.cell? ⟨b, o + i * 11, none⟩ = some (.bool x.many) := ca' 0 (by decide)
      have yy1 : w.cell? ⟨b, o + i * 11 + 1, none⟩ = some (.int .i64 x.t) := ca' 1 (by decide)
      have yy2 : w.cell? ⟨b, o + i * 11 + 2, none⟩ = some (.int .i64 x.n) := ca' 2 (by decide)
      have yy3 : w.cell? ⟨b, o + i * 11 + 3, none⟩ = some (.string x.s) := ca' 3 (by decide)
      have yy4 : w.cell? ⟨b, o + i * 11 + 4, none⟩ = some (.bool x.b) := ca' 4 (by decide)
      have yy5 : w.cell? ⟨b, o + i * 11 + 5, none⟩ = some (.int .i64 x.c) := ca' 5 (by decide)
      have yy6 : w.cell? ⟨b, o + i * 11 + 6, none⟩ = some (.int .i64 x.r0) := ca' 6 (by decide)
      have yy7 : w.cell? ⟨b, o + i * 11 + 7, none⟩ = some (.int .i64 x.r1) := ca' 7 (by decide)
      have yy8 : w.cell? ⟨b, o + i * 11 + 8, none⟩ = some (.int .i64 x.r2) := ca' 8 (by decide)
      have yy9 : w.cell? ⟨b, o + i * 11 + 9, none⟩ = some (.int .i64 x.r3) := ca' 9 (by decide)
      have yy10 : w.cell? ⟨b, o + i * 11 + 10, none⟩ = some (.slice x.ep x.en x.ec) := ca' 10 (by decide)
      clear ca'
      have x0 := yy0
      have x1 := yy1
      have x2 := yy2
      have x3 := yy3
      have x4 := yy4
      have x5 := yy5
      have x6 := yy6
      have x7 := yy7
      have x8 := yy8
      have x9 := yy9
      have x10 := yy10
      clear yy0 yy1 yy2 yy3 yy4 yy5 yy6 yy7 yy8 yy9 yy10
      have u0 := (hB3.cell (p := ⟨b, o + i * 11, none⟩) hla).trans x0
      obtain ⟨up, uc, rfl, _, _⟩ := Row.slice HR.out
      have HO : Hid (wr.ownsRow w.heap.size 4 1 (.slice up ((l.take i).map (·.many)).length uc) ((l.take i).map (·.many)).length (flatC bcell1 ((l.take i).map (·.many)))) := HR.out
      cases ok
      · go_wp2_with (at_builtin; refine wpList_append_own _ rfl _ _ 44 rfl w.heap.size 4 i0 _ 1 1 Tryz.underlying44 HI.out HZ0.out HZ1.out HZ2.out rfl (by decide) _ _ _ rfl (HO.out.alloc _) ⟨wr.heap.size, 0, none⟩ 1 1 (bcell1 x.many).toList rfl rfl (by exact news_pl _ _ _) (bcell1_one _) (by rw [List.length_map, List.length_take]; unfold maxLen; omega) (by rw [List.length_map, List.length_take]; omega) (by rw [World.size_alloc]; omega) ?_; intro v' w1 hown' hgrow _; have R := app_rowv (t := x.many) (hB3.alloc (by omega) _) HR.out hown' hgrow; rw [take_map HAi.out] at R; have hB4 := R.2; have z4 := hB4.size; have HR4 : Hid _ := R.1; clear R hown' hgrow; skip)
        exact ⟨⟨i + 1, false, by go_num, rfl, by omega, HR4, (show Hid _ from ok_stay HAi.out hok.out), by with_reducible (repeat' first | assumption | exact Below.refl _ _ | refine Below.drew ?_ | refine bdrewN ?_ _ | refine Below.setCell ?_ (by first | exact Nat.le_refl _ | (simp; done) | (simp; omega) | omega) _ | refine Below.alloc ?_ (by first | exact Nat.le_refl _ | (simp; done) | (simp; omega) | omega) _)⟩, by simp [intOf]; omega⟩
      · go_wp2_with (first | (at_builtin; refine wpList_append_own _ rfl _ _ 44 rfl w.heap.size 4 i0 _ 1 1 Tryz.underlying44 HI.out HZ0.out HZ1.out HZ2.out rfl (by decide) _ _ _ rfl (HO.out.alloc _) ⟨wr.heap.size, 0, none⟩ 1 1 (bcell1 x.many).toList rfl rfl (by exact news_pl _ _ _) (bcell1_one _) (by rw [List.length_map, List.length_take]; unfold maxLen; omega) (by rw [List.length_map, List.length_take]; omega) (by rw [World.size_alloc]; omega) ?_; intro v' w1 hown' hgrow _; have R := app_rowv (t := x.many) (hB3.alloc (by omega) _) HR.out hown' hgrow; rw [take_map HAi.out] at R; have hB4 := R.2; have z4 := hB4.size; have HR4 : Hid _ := R.1; clear R hown' hgrow; have y0 := (hB4.cell (p := ⟨b, o + i * 11, none⟩) hla).trans x0; have y1 := (hB4.cell (p := ⟨b, o + i * 11 + 1, none⟩) hla).trans x1; have y2 := (hB4.cell (p := ⟨b, o + i * 11 + 2, none⟩) hla).trans x2; have y3 := (hB4.cell (p := ⟨b, o + i * 11 + 3, none⟩) hla).trans x3; have y4 := (hB4.cell (p := ⟨b, o + i * 11 + 4, none⟩) hla).trans x4; have y5 := (hB4.cell (p := ⟨b, o + i * 11 + 5, none⟩) hla).trans x5; have y6 := (hB4.cell (p := ⟨b, o + i * 11 + 6, none⟩) hla).trans x6; have y7 := (hB4.cell (p := ⟨b, o + i * 11 + 7, none⟩) hla).trans x7; have y8 := (hB4.cell (p := ⟨b, o + i * 11 + 8, none⟩) hla).trans x8; have y9 := (hB4.cell (p := ⟨b, o + i * 11 + 9, none⟩) hla).trans x9; have y10 := (hB4.cell (p := ⟨b, o + i * 11 + 10, none⟩) hla).trans x10) | (go_at_call 31; refine (darg_any x _ ((hE.out _ (List.mem_of_getElem? HAi.out)).keep hB4) hin).mono ?_; rintro e w2 ⟨⟨B, rfl, hB⟩, hb2⟩; have hB5 : Below w.heap.size w w2 := bup (by with_reducible (repeat' first | assumption | exact Below.refl _ _ | refine Below.drew ?_ | refine bdrewN ?_ _ | refine Below.setCell ?_ (by first | exact Nat.le_refl _ | (simp; done) | (simp; omega) | omega) _ | refine Below.alloc ?_ (by first | exact Nat.le_refl _ | (simp; done) | (simp; omega) | omega) _)) hb2; have HBB : Hid _ := hB; clear hB; have HR5 : Hid _ := Row.keep HR4.out hb2))
        exact ⟨⟨i + 1, B, by go_num, rfl, by omega, HR5, (show Hid _ from ok_next HAi.out hok.out HBB.out), by with_reducible (repeat' first | assumption | exact Below.refl _ _ | refine Below.drew ?_ | refine bdrewN ?_ _ | refine Below.setCell ?_ (by first | exact Nat.le_refl _ | (simp; done) | (simp; omega) | omega) _ | refine Below.alloc ?_ (by first | exact Nat.le_refl _ | (simp; done) | (simp; omega) | omega) _)⟩, by simp [intOf]; omega⟩
    · have hlt' : ¬ (i : Int) < n := by omega
      have hil : l.take i = l := List.take_of_length_le (by rw [HL.out]; omega)
      have q1 := HR.out
      have q2 := hok.out
      rw [hil] at q1 q2
      clear HR hok
      go_wp2
      exact bodyPost_ret (v := .tuple #[u4, .bool ok]) (by simp [results, Tryz.results12, go_sem]) rfl ⟨⟨_, _, rfl, q1, q2⟩, by with_reducible (repeat' first | assumption | exact Below.refl _ _ | refine Below.drew ?_ | refine bdrewN ?_ _ | refine Below.setCell ?_ (by first | exact Nat.le_refl _ | (simp; done) | (simp; omega) | omega) _ | refine Below.alloc ?_ (by first | exact Nat.le_refl _ | (simp; done) | (simp; omega) | omega) _)⟩
theorem args_0 (w : World) (p : Option Addr) (c : Nat) : Calls Tryz.prog 12 #[.slice p 0 c] w fun e w' => ArgsP w.heap.size [] e w' ∧ Below w.heap.size w w' := by
  go_enter Tryz.func12, Tryz.ntmps12
  go_wp2
  go_loopw [4, 5, 6] (fun u v j w' => u = .slice none 0 0 ∧ v = .bool true ∧ j = .int .i64 0 ∧ w' = w) (fun _ _ _ _ => 0)
  case atStart => exact ⟨rfl, rfl, rfl, rfl⟩
  case round =>
    obtain ⟨rfl, rfl, rfl, rfl⟩ := hrel
    go_wp2
    exact bodyPost_ret (v := .tuple #[.slice none 0 0, .bool true]) (by simp [results, Tryz.results12, go_sem]) rfl ⟨⟨_, _, rfl, Row.nil _ _, fun _ => rfl⟩, Below.refl _ _⟩
theorem args_any (w : World) (v : Value) (l : List Ag) (h : AV w v l) (hN : Hid (Nums l)) (hl : l.length ≤ 1099511627776) (hE : ∀ a ∈ l, EV w a) : Calls Tryz.prog 12 #[v] w fun e w' => ArgsP w.heap.size l e w' ∧ Below w.heap.size w w' := by
  obtain ⟨p, c, rfl, hc, hf⟩ := h
  by_cases h0 : 0 < l.length
  · obtain ⟨b, o, rfl, hlt, HA⟩ := hf h0
    exact args_y w b o c l.length l hlt HA rfl hc h0 (by omega) hN hl hE
  · have e : l = [] := List.eq_nil_of_length_eq_zero (by omega)
    subst e
    exact args_0 w p c
end Go.Proofs.YtfpbcokfianjaaaGreat
namespace Go.Proofs.YtfpbcokfianjaaaGreat
open Go.RowKit
set_option linter.all false
theorem wants_0 (w : World) : Calls Tryz.prog 32 #[.string ⟨#[65, 66, 83]⟩] w fun e w' => e = .returned (.tuple #[.int .i64 1, .int .i64 1]) ∧ w' = w := by
  go_enter Tryz.func32, Tryz.ntmps32
  go_wp2
  go_ret2
  exact ⟨rfl, rfl⟩
theorem wants_1 (w : World) : Calls Tryz.prog 32 #[.string ⟨#[83, 73, 71, 78]⟩] w fun e w' => e = .returned (.tuple #[.int .i64 1, .int .i64 1]) ∧ w' = w := by
  go_enter Tryz.func32, Tryz.ntmps32
  go_wp2
  go_ret2
  exact ⟨rfl, rfl⟩
theorem wants_2 (w : World) : Calls Tryz.prog 32 #[.string ⟨#[73, 78, 84]⟩] w fun e w' => e = .returned (.tuple #[.int .i64 1, .int .i64 1]) ∧ w' = w := by
  go_enter Tryz.func32, Tryz.ntmps32
  go_wp2
  go_ret2
  exact ⟨rfl, rfl⟩
theorem wants_3 (w : World) : Calls Tryz.prog 32 #[.string ⟨#[84, 82, 85, 78, 67]⟩] w fun e w' => e = .returned (.tuple #[.int .i64 1, .int .i64 2]) ∧ w' = w := by
  go_enter Tryz.func32, Tryz.ntmps32
  go_wp2
  go_ret2
  exact ⟨rfl, rfl⟩
theorem wants_4 (w : World) : Calls Tryz.prog 32 #[.string ⟨#[82, 79, 85, 78, 68]⟩] w fun e w' => e = .returned (.tuple #[.int .i64 1, .int .i64 2]) ∧ w' = w := by
  go_enter Tryz.func32, Tryz.ntmps32
  go_wp2
  go_ret2
  exact ⟨rfl, rfl⟩
theorem wants_5 (w : World) : Calls Tryz.prog 32 #[.string ⟨#[70, 76, 79, 79, 82]⟩] w fun e w' => e = .returned (.tuple #[.int .i64 2, .int .i64 2]) ∧ w' = w := by
  go_enter Tryz.func32, Tryz.ntmps32
  go_wp2
  go_ret2
  exact ⟨rfl, rfl⟩
theorem wants_6 (w : World) : Calls Tryz.prog 32 #[.string ⟨#[67, 69, 73, 76]⟩] w fun e w' => e = .returned (.tuple #[.int .i64 2, .int .i64 2]) ∧ w' = w := by
  go_enter Tryz.func32, Tryz.ntmps32
  go_wp2
  go_ret2
  exact ⟨rfl, rfl⟩
theorem wants_7 (w : World) : Calls Tryz.prog 32 #[.string ⟨#[77, 79, 68]⟩] w fun e w' => e = .returned (.tuple #[.int .i64 2, .int .i64 2]) ∧ w' = w := by
  go_enter Tryz.func32, Tryz.ntmps32
  go_wp2
  go_ret2
  exact ⟨rfl, rfl⟩
theorem wants_8 (w : World) : Calls Tryz.prog 32 #[.string ⟨#[81, 85, 79, 84]⟩] w fun e w' => e = .returned (.tuple #[.int .i64 2, .int .i64 2]) ∧ w' = w := by
  go_enter Tryz.func32, Tryz.ntmps32
  go_wp2
  go_ret2
  exact ⟨rfl, rfl⟩
theorem wants_9 (w : World) : Calls Tryz.prog 32 #[.string ⟨#[80, 79, 87, 69, 82]⟩] w fun e w' => e = .returned (.tuple #[.int .i64 2, .int .i64 2]) ∧ w' = w := by
  go_enter Tryz.func32, Tryz.ntmps32
  go_wp2
  go_ret2
  exact ⟨rfl, rfl⟩
theorem wants_10 (w : World) : Calls Tryz.prog 32 #[.string ⟨#[83, 81, 82, 84]⟩] w fun e w' => e = .returned (.tuple #[.int .i64 1, .int .i64 1]) ∧ w' = w := by
  go_enter Tryz.func32, Tryz.ntmps32
  go_wp2
  go_ret2
  exact ⟨rfl, rfl⟩
theorem wants_11 (w : World) : Calls Tryz.prog 32 #[.string ⟨#[71, 67, 68]⟩] w fun e w' => e = .returned (.tuple #[.int .i64 1, .int .i64 16]) ∧ w' = w := by
  go_enter Tryz.func32, Tryz.ntmps32
  go_wp2
  go_ret2
  exact ⟨rfl, rfl⟩
theorem wants_12 (w : World) : Calls Tryz.prog 32 #[.string ⟨#[76, 67, 77]⟩] w fun e w' => e = .returned (.tuple #[.int .i64 1, .int .i64 16]) ∧ w' = w := by
  go_enter Tryz.func32, Tryz.ntmps32
  go_wp2
  go_ret2
  exact ⟨rfl, rfl⟩
theorem wants_13 (w : World) : Calls Tryz.prog 32 #[.string ⟨#[70, 65, 67, 84]⟩] w fun e w' => e = .returned (.tuple #[.int .i64 1, .int .i64 1]) ∧ w' = w := by
  go_enter Tryz.func32, Tryz.ntmps32
  go_wp2
  go_ret2
  exact ⟨rfl, rfl⟩
theorem wants_14 (w : World) : Calls Tryz.prog 32 #[.string ⟨#[67, 76, 65, 77, 80]⟩] w fun e w' => e = .returned (.tuple #[.int .i64 3, .int .i64 3]) ∧ w' = w := by
  go_enter Tryz.func32, Tryz.ntmps32
  go_wp2
  go_ret2
  exact ⟨rfl, rfl⟩
theorem wants_15 (w : World) : Calls Tryz.prog 32 #[.string ⟨#[79, 68, 68]⟩] w fun e w' => e = .returned (.tuple #[.int .i64 1, .int .i64 1]) ∧ w' = w := by
  go_enter Tryz.func32, Tryz.ntmps32
  go_wp2
  go_ret2
  exact ⟨rfl, rfl⟩
theorem wants_no0 (s : ByteArray) (w : World) (h0 : (s.toList == [65, 66, 83]) = false) (h1 : (s.toList == [83, 73, 71, 78]) = false) (h2 : (s.toList == [73, 78, 84]) = false) (h3 : (s.toList == [84, 82, 85, 78, 67]) = false) (h4 : (s.toList == [82, 79, 85, 78, 68]) = false) (h5 : (s.toList == [70, 76, 79, 79, 82]) = false) (h6 : (s.toList == [67, 69, 73, 76]) = false) (h7 : (s.toList == [77, 79, 68]) = false) (h8 : (s.toList == [81, 85, 79, 84]) = false) (h9 : (s.toList == [80, 79, 87, 69, 82]) = false) (h10 : (s.toList == [83, 81, 82, 84]) = false) (h11 : (s.toList == [71, 67, 68]) = false) (h12 : (s.toList == [76, 67, 77]) = false) (h13 : (s.toList == [70, 65, 67, 84]) = false) (h14 : (s.toList == [67, 76, 65, 77, 80]) = false) (h15 : (s.toList == [79, 68, 68]) = false) : Calls Tryz.prog 32 #[.string s] w fun e w' => e = .returned (.tuple #[.int .i64 0, .int .i64 (-1)]) ∧ w' = w := by
  go_enter Tryz.func32, Tryz.ntmps32
  go_wp2
  go_ret2
  exact ⟨rfl, rfl⟩
theorem wants_no (s : ByteArray) (w : World) (h : ¬ nmI s < 16) : Calls Tryz.prog 32 #[.string s] w fun e w' => e = .returned (.tuple #[.int .i64 0, .int .i64 (-1)]) ∧ w' = w := by
  have h16 : nmI s = 16 := by have := nm_le s; omega
  exact wants_no0 s w (nm_f (nm_no h16 _ (by decide))) (nm_f (nm_no h16 _ (by decide))) (nm_f (nm_no h16 _ (by decide))) (nm_f (nm_no h16 _ (by decide))) (nm_f (nm_no h16 _ (by decide))) (nm_f (nm_no h16 _ (by decide))) (nm_f (nm_no h16 _ (by decide))) (nm_f (nm_no h16 _ (by decide))) (nm_f (nm_no h16 _ (by decide))) (nm_f (nm_no h16 _ (by decide))) (nm_f (nm_no h16 _ (by decide))) (nm_f (nm_no h16 _ (by decide))) (nm_f (nm_no h16 _ (by decide))) (nm_f (nm_no h16 _ (by decide))) (nm_f (nm_no h16 _ (by decide))) (nm_f (nm_no h16 _ (by decide)))
theorem wants_any (s : ByteArray) (w : World) (h : nmI s < 16) : Calls Tryz.prog 32 #[.string s] w fun e w' => e = .returned (.tuple #[.int .i64 (loI (nmI s)), .int .i64 (hiI (nmI s))]) ∧ w' = w := by
  have e := nm_at h
  generalize nmI s = k at h e ⊢
  subst e
  match k, h with
  | 0, _ => exact wants_0 w
  | 1, _ => exact wants_1 w
  | 2, _ => exact wants_2 w
  | 3, _ => exact wants_3 w
  | 4, _ => exact wants_4 w
  | 5, _ => exact wants_5 w
  | 6, _ => exact wants_6 w
  | 7, _ => exact wants_7 w
  | 8, _ => exact wants_8 w
  | 9, _ => exact wants_9 w
  | 10, _ => exact wants_10 w
  | 11, _ => exact wants_11 w
  | 12, _ => exact wants_12 w
  | 13, _ => exact wants_13 w
  | 14, _ => exact wants_14 w
  | 15, _ => exact wants_15 w
  | j + 16, h => exact absurd h (by omega)
/-- How many the document wants. -/
def wlI (s : ByteArray) : Int := if nmI s < 16 then loI (nmI s) else 0
def whI (s : ByteArray) : Int := if nmI s < 16 then hiI (nmI s) else -1
theorem wants_all (s : ByteArray) (w : World) : Calls Tryz.prog 32 #[.string s] w fun e w' => e = .returned (.tuple #[.int .i64 (wlI s), .int .i64 (whI s)]) ∧ w' = w := by
  unfold wlI whI
  by_cases h : nmI s < 16
  · rw [if_pos h, if_pos h]; exact wants_any s w h
  · rw [if_neg h, if_neg h]; exact wants_no s w h
theorem wants_has (s : ByteArray) (n : Nat) : hasB (wlI s) (whI s) (n : Int) = (decide (nmI s < 16) && hasB (loI (nmI s)) (hiI (nmI s)) (n : Int)) := by
  unfold wlI whI
  by_cases h : nmI s < 16
  · rw [if_pos h, if_pos h, decide_eq_true h, Bool.true_and]
  · rw [if_neg h, if_neg h, decide_eq_false h, Bool.false_and]
    simp [hasB]; omega
set_option maxRecDepth 100000 in
set_option maxHeartbeats 1000000 in
theorem rtakes_y (s : ByteArray) (w : World) (b o c n : Nat) (l : List Bool) (hla : b < w.heap.size) (HA : ∀ i x, l[i]? = some x → ∀ j, j < 1 → w.cell? ⟨b, o + i * 1 + j, none⟩ = (bcell1 x)[j]?) (hn : l.length = n) (hc : n ≤ c) (h0 : 0 < n) (hl : n ≤ 9223372036854775807) :
    Calls Tryz.prog 13 #[.string s, .slice (some ⟨b, o, none⟩) n c] w fun e w' => e = .returned (.bool (hasB (wlI s) (whI s) (n : Int) && !l.any id)) ∧ Below w.heap.size w w' := by
  have mixed : Tryz.prog.follows .mixedOrders = true := by kernel_rfl
  have hw := wants_all s w
  generalize wlI s = lo at hw ⊢
  generalize whI s = hi at hw ⊢
  have HA' : Hid _ := HA
  have HL : Hid (l.length = n) := hn
  clear HA hn
  go_enter Tryz.func13, Tryz.ntmps13
  go_wp2_with (go_at_call 32; refine hw.mono ?_; rintro e w5 ⟨rfl, rfl⟩)
  go_loopw [7] (fun v w' => ∃ i : Nat, v = .int .i64 i ∧ i ≤ n ∧ Hid ((l.take i).any id = false) ∧ w' = w5) (fun v _ => n - (intOf v).toNat)
  case atStart => exact ⟨0, rfl, by omega, rfl, rfl⟩
  case round =>
    obtain ⟨i, rfl, hii, htk, rfl⟩ := hrel
    by_cases hlt : i < n
    · have hlt' : (i : Int) < n := by omega
      have hai : l[i]? = some (l[i]'(by rw [HL.out]; exact hlt)) := List.getElem?_eq_getElem _
      have ca' := HA'.out i _ hai 0 (by decide)
      have HAi : Hid _ := hai
      revert ca' HAi
      generalize (l[i]'(by rw [HL.out]; exact hlt)) = x
      intro ca' HAi
      clear hai
      have x0 : wr.cell? ⟨b, o + i, none⟩ = some (.bool x) := by simpa [bcell1] using ca'
      clear ca'
      cases x
      · go_wp2
        exact ⟨⟨i + 1, by go_num, by omega, any_take HAi.out htk.out rfl, trivial⟩, by simp [intOf]; omega⟩
      · go_wp2
        go_ret
        exact ⟨retBl (by rw [any_at HAi.out rfl]; simp), by with_reducible (repeat' first | assumption | exact Below.refl _ _ | refine Below.drew ?_ | refine bdrewN ?_ _ | refine Below.setCell ?_ (by first | exact Nat.le_refl _ | (simp; done) | (simp; omega) | omega) _ | refine Below.alloc ?_ (by first | exact Nat.le_refl _ | (simp; done) | (simp; omega) | omega) _)⟩
    · have hlt' : ¬ (i : Int) < n := by omega
      have hal := any_all (by rw [HL.out]; omega) htk.out
      by_cases g1 : lo ≤ (n : Int)
      · by_cases g2 : (n : Int) ≤ hi
        · go_wp2
          go_ret
          exact ⟨retBl (by simp [hasB, g1, g2, hal]), by with_reducible (repeat' first | assumption | exact Below.refl _ _ | refine Below.drew ?_ | refine bdrewN ?_ _ | refine Below.setCell ?_ (by first | exact Nat.le_refl _ | (simp; done) | (simp; omega) | omega) _ | refine Below.alloc ?_ (by first | exact Nat.le_refl _ | (simp; done) | (simp; omega) | omega) _)⟩
        · go_wp2
          go_ret
          exact ⟨retBl (by simp [hasB, g1, g2, hal]), by with_reducible (repeat' first | assumption | exact Below.refl _ _ | refine Below.drew ?_ | refine bdrewN ?_ _ | refine Below.setCell ?_ (by first | exact Nat.le_refl _ | (simp; done) | (simp; omega) | omega) _ | refine Below.alloc ?_ (by first | exact Nat.le_refl _ | (simp; done) | (simp; omega) | omega) _)⟩
      · go_wp2
        go_ret
        exact ⟨retBl (by unfold hasB; rw [decide_eq_false (show ¬ lo ≤ (n : Int) by omega)]; rfl), by with_reducible (repeat' first | assumption | exact Below.refl _ _ | refine Below.drew ?_ | refine bdrewN ?_ _ | refine Below.setCell ?_ (by first | exact Nat.le_refl _ | (simp; done) | (simp; omega) | omega) _ | refine Below.alloc ?_ (by first | exact Nat.le_refl _ | (simp; done) | (simp; omega) | omega) _)⟩
theorem rtakes_0 (s : ByteArray) (w : World) (p : Option Addr) (c : Nat) : Calls Tryz.prog 13 #[.string s, .slice p 0 c] w fun e w' => e = .returned (.bool (hasB (wlI s) (whI s) 0)) ∧ Below w.heap.size w w' := by
  have hw := wants_all s w
  generalize wlI s = lo at hw ⊢
  generalize whI s = hi at hw ⊢
  go_enter Tryz.func13, Tryz.ntmps13
  go_wp2_with (go_at_call 32; refine hw.mono ?_; rintro e w5 ⟨rfl, rfl⟩)
  go_loopw [7] (fun v w' => v = .int .i64 0 ∧ w' = w5) (fun _ _ => 0)
  case atStart => exact ⟨rfl, rfl⟩
  case round =>
    obtain ⟨rfl, rfl⟩ := hrel
    by_cases g1 : lo ≤ 0
    · by_cases g2 : 0 ≤ hi
      · go_wp2
        go_ret
        exact ⟨retBl (by simp [hasB, g1, g2]), by with_reducible (repeat' first | assumption | exact Below.refl _ _ | refine Below.drew ?_ | refine bdrewN ?_ _ | refine Below.setCell ?_ (by first | exact Nat.le_refl _ | (simp; done) | (simp; omega) | omega) _ | refine Below.alloc ?_ (by first | exact Nat.le_refl _ | (simp; done) | (simp; omega) | omega) _)⟩
      · go_wp2
        go_ret
        exact ⟨retBl (by simp [hasB, g1, g2]), by with_reducible (repeat' first | assumption | exact Below.refl _ _ | refine Below.drew ?_ | refine bdrewN ?_ _ | refine Below.setCell ?_ (by first | exact Nat.le_refl _ | (simp; done) | (simp; omega) | omega) _ | refine Below.alloc ?_ (by first | exact Nat.le_refl _ | (simp; done) | (simp; omega) | omega) _)⟩
    · go_wp2
      go_ret
      exact ⟨retBl (by unfold hasB; rw [decide_eq_false (show ¬ lo ≤ (0 : Int) by omega)]; rfl), by with_reducible (repeat' first | assumption | exact Below.refl _ _ | refine Below.drew ?_ | refine bdrewN ?_ _ | refine Below.setCell ?_ (by first | exact Nat.le_refl _ | (simp; done) | (simp; omega) | omega) _ | refine Below.alloc ?_ (by first | exact Nat.le_refl _ | (simp; done) | (simp; omega) | omega) _)⟩
theorem rtakes_any (s : ByteArray) (w : World) (v : Value) (l : List Bool) (h : BV w v l) (hl : l.length ≤ 9223372036854775807) : Calls Tryz.prog 13 #[.string s, v] w fun e w' => e = .returned (.bool (hasB (wlI s) (whI s) (l.length : Int) && !l.any id)) ∧ Below w.heap.size w w' := by
  obtain ⟨p, c, rfl, hc, hf⟩ := h
  by_cases h0 : 0 < l.length
  · obtain ⟨b, o, rfl, hlt, HA⟩ := hf h0
    exact rtakes_y s w b o c l.length l hlt HA rfl hc h0 hl
  · have e : l = [] := List.eq_nil_of_length_eq_zero (by omega)
    subst e
    have q := rtakes_0 s w p c
    simpa using q
end Go.Proofs.YtfpbcokfianjaaaGreat
