/- TextsJoins, second form: of any two texts of at most 2^20 bytes together and any bound: CONCAT is too long just if the texts are together, else all of them; REPT is CONCAT of one several times: the law returns true, and its arguments read as before. The conditions: the arguments' bulk is at most 2^20; the tables of the library's package variables lie as laid. -/
import Derived.Test.YtdcfnfapdceenaaGreatDoorTP0
import Derived.Test.YtdcfnfapdceenaaGreatDoorTN
namespace Go.Proofs.YtdcfnfapdceenaaGreatDoor.textsJoins
open Go.Shelf Go.RowKit Go.ChangeShapes Go.WideShapes Go.ChangeAt
set_option linter.all false
theorem nm_concat : nmI ⟨#[67, 79, 78, 67, 65, 84]⟩ = 10 := by kernel_rfl
theorem nm_rept : nmI ⟨#[82, 69, 80, 84]⟩ = 7 := by kernel_rfl
theorem cat3 (a b c : ByteArray) : catB [a, b, c] = a ++ b ++ c := by
  apply ByteArray.ext
  show (([a, b, c].map (·.data.toList)).flatten).toArray = (a ++ b ++ c).data
  rw [ByteArray.data_append, ByteArray.data_append]
  simp
theorem sz3 (a b c : ByteArray) : (a ++ b ++ c).size = a.size + b.size + c.size := by rw [ByteArray.size_append, ByteArray.size_append]
theorem rep3 (a : ByteArray) : repB a 3 = a ++ a ++ a := by
  rw [← cat3]
  unfold repB catB
  simp [Lib.repeatL]
theorem call_cat (a b c : ByteArray) (r : ByteArray) (hr : r = a ++ b ++ c) (w : World) (v : Value) (x : Int) (hv : AV w v [argV 2 0 a false 0, argV 2 0 b false 0, argV 2 0 c false 0]) (hP : Pow w) (hx : 0 ≤ x) (hx2 : x ≤ 1024) (ha : a.size ≤ 1048576) (hb : b.size ≤ 1048576) (hc : c.size ≤ 1048576) :
    Calls Tryz.prog 9 #[.string ⟨#[67, 79, 78, 67, 65, 84]⟩, v, .int .i64 x] w fun e w' => e = .returned (.agg #[.int .i64 (toT (r) x), .int .i64 (0), .string (toS (r) x), .bool false, .int .i64 (toC (r) x)]) ∧ Below w.heap.size w w' := by
  subst hr
  rw [← cat3]
  refine call_ok _ 10 nm_concat (by decide) w v x _ [a, b, c] [] hv (by simp) (by simp) hP (show hasB (loI 10) (hiI 10) 3 = true by decide) ?_ ?_ rfl ?_ hx hx2 _ _ _ _ _ ?_
  · intro y hy
    simp at hy
    rcases hy with rfl | rfl | rfl
    · exact okT_T a
    · exact okT_T b
    · exact okT_T c
  · show [aT (argT a), aT (argT b), aT (argT c)] = [a, b, c]; rw [aT_T, aT_T, aT_T]
  · intro y hy
    have hy' : y ∈ ([] : List Ag) := hy
    simp at hy'
  · intro W tp tc np nc h1 h2
    obtain ⟨p, cap, e, hcap, _⟩ := Row.slice h1
    obtain ⟨_, g, rfl, hg, hcl⟩ := SRow.lay h1 (by simp)
    cases e
    exact joined_any g tc 3 np 0 nc x W hg [a, b, c] (fun j s hj => hcl j s hj) rfl (by decide) hcap (by rw [cat3, sz3]; omega) hx2
theorem told_long {r : ByteArray} {x : Int} (h : x < (r.size : Int)) : (.agg #[.int .i64 (4), .int .i64 (0), .string (⟨#[]⟩), .bool false, .int .i64 (7)]) = ((.agg #[.int .i64 (toT (r) x), .int .i64 (0), .string (toS (r) x), .bool false, .int .i64 (toC (r) x)]) : Value) := by
  unfold toT toS toC
  rw [if_pos h, if_pos h, if_pos h]
theorem call_rept (a : ByteArray) (r : ByteArray) (hr : r = a ++ a ++ a) (w : World) (v : Value) (x : Int) (y : Int) (hy : y = 3 * 10000) (hv : AV w v [argV 2 0 a false 0, argV 1 y ⟨#[]⟩ false 0]) (hP : Pow w) (hx : 0 ≤ x) (hx2 : x ≤ 1024) (ha : a.size ≤ 1048576) :
    Calls Tryz.prog 9 #[.string ⟨#[82, 69, 80, 84]⟩, v, .int .i64 x] w fun e w' => e = .returned (.agg #[.int .i64 (toT (r) x), .int .i64 (0), .string (toS (r) x), .bool false, .int .i64 (toC (r) x)]) ∧ Below w.heap.size w w' := by
  subst hr hy
  have m3 : Mod 3 := ⟨by decide, by decide⟩
  refine call_ok _ 7 nm_rept (by decide) w v x [argT a, argW 3] [a] [3] hv (by simp) (by simp) hP (show hasB (loI 7) (hiI 7) 2 = true by decide) ?_ ?_ ?_ ?_ hx hx2 _ _ _ _ _ ?_
  · intro y hy
    simp at hy
    rcases hy with rfl | rfl
    · exact okT_T a
    · exact okT_W m3
  · show [aT (argT a)] = [a]; rw [aT_T]
  · show [aI (argW 3)] = [3]; rw [aI_W m3]
  · intro y hy
    have hy' : y ∈ [argW 3] := hy
    simp at hy'
    subst hy'
    exact cd_W m3
  · intro W tp tc np nc h1 h2
    obtain ⟨_, g, rfl, hg, hc⟩ := SRow.lay h1 (by simp)
    obtain ⟨_, h, rfl, hh, hd⟩ := IRow.lay h2 (by simp)
    by_cases h0 : 0 < a.size
    · have hq := Int.tdiv_eq_ediv_of_nonneg (b := (a.size : Int)) hx
      by_cases hq2 : x.tdiv (a.size : Int) < 3
      · have hlt : x < ((a ++ a ++ a).size : Int) := by
          rw [sz3]
          rw [hq] at hq2
          have := (Int.ediv_lt_iff_lt_mul (show (0 : Int) < (a.size : Int) by omega)).1 hq2
          omega
        rw [← told_long hlt]
        exact rept_long g tc h nc x 3 a W hg hh (hc 0 a rfl) (hd 0 3 rfl) (by decide) h0 _ rfl hq2 hx hx2
      · have hle : a.size * 3 ≤ 1024 := by
          rw [hq] at hq2
          have := Int.ediv_mul_le x (show (a.size : Int) ≠ 0 by omega)
          have h5 : (3 : Int) * (a.size : Int) ≤ x / (a.size : Int) * (a.size : Int) := Int.mul_le_mul_of_nonneg_right (by omega) (by omega)
          omega
        have h6 := rept_ok g tc h nc x 3 a W hg hh (hc 0 a rfl) (hd 0 3 rfl) (by decide) h0 _ rfl hq2 hx hx2 hle
        rw [show (3 : Int).toNat = 3 from rfl, rep3] at h6
        exact h6
    · have e0 : a = ⟨#[]⟩ := by
        apply ByteArray.ext
        have : a.data.size = 0 := by have : a.size = 0 := by omega
                                     exact this
        exact Array.eq_empty_of_size_eq_zero this
      subst e0
      exact rept_e g tc h nc x 3 _ W hg hh (hc 0 _ rfl) (hd 0 3 rfl) (by decide) rfl hx2
theorem call_bad (nm : ByteArray) (hn : nmI nm < 16) (w : World) (v : Value) (x : Int) (hx : x < 0 ∨ 1024 < x) : Calls Tryz.prog 9 #[.string nm, v, .int .i64 x] w fun e w' => e = .returned (.agg #[.int .i64 (4), .int .i64 (0), .string (⟨#[]⟩), .bool false, .int .i64 (8)]) ∧ Below w.heap.size w w' := by
  by_cases h : x < 0
  · exact c_lo_y nm w v x hn h
  · exact c_hi_y nm w v x hn h (by omega)
theorem lfault_t (c : Int) (w : World) : Calls Tryz.prog 20 #[(.agg #[.int .i64 (4), .int .i64 (0), .string (⟨#[]⟩), .bool false, .int .i64 (c)]), .int .i64 c] w fun e w' => e = .returned (.bool true) ∧ Below w.heap.size w w' := by
  have h := lfault 4 0 ⟨#[]⟩ false c c w
  rw [show sameB 4 0 ⟨#[]⟩ false c 4 0 ⟨#[]⟩ false c = true by simp [sameB]] at h
  exact h
theorem eq_v (t n : Int) (s : ByteArray) (c : Int) (w : World) : (binOp .eql 26 (.agg #[.int .i64 (t), .int .i64 (n), .string (s), .bool false, .int .i64 (c)]) (.agg #[.int .i64 (t), .int .i64 (n), .string (s), .bool false, .int .i64 (c)])).run Tryz.prog w = .ok (.bool true) w := by
  have h := eqv t n s false c t n s false c w
  rw [show sameB t n s false c t n s false c = true by simp [sameB]] at h
  exact h
set_option maxRecDepth 100000 in
set_option maxHeartbeats 1000000 in
theorem j_lo (a b : ByteArray) (x : Int) (w : World) (ha : a.size ≤ 1048576) (hb : b.size ≤ 1048576) (hx : x < 0) (hP : Pow w) : Calls Tryz.prog 7 #[.string a, .string b, .int .i64 x] w fun e w' => e = .returned (.bool true) ∧ Below w.heap.size w w' := by
  have mixed : Tryz.prog.follows .mixedOrders = true := by kernel_rfl
  have m3 : Mod 3 := ⟨by decide, by decide⟩
  have kc : nmI ⟨#[67, 79, 78, 67, 65, 84]⟩ < 16 := by rw [nm_concat]; decide
  have kr : nmI ⟨#[82, 69, 80, 84]⟩ < 16 := by rw [nm_rept]; decide
  have hxx : x < 0 ∨ 1024 < x := .inl hx
  have bg : Bag w [] := Bag.nil w
  go_enter Tryz.func7, Tryz.ntmps7
  go_wp2_with (first | (go_at_call 11; (with_reducible refine (known_law _ hP).mono ?_); rintro e w1 ⟨rfl, hb1⟩; have hB1 : Below w.heap.size w w1 := bup (by with_reducible (repeat' first | assumption | exact Below.refl _ _ | refine Below.drew ?_ | refine bdrewN ?_ _ | refine Below.setCell ?_ (by first | exact Nat.le_refl _ | (simp; done) | (simp; omega) | omega) _ | refine Below.alloc ?_ (by first | exact Nat.le_refl _ | (simp; done) | (simp; omega) | omega) _)) hb1; (first | replace bg := Bag.keep bg hb1 | replace bg := Bag.keep (Bag.new bg _ _) hb1 | replace bg := Bag.keep (textsParts.Bag.drew bg) hb1); have z1 := hB1.size; (first | (have oA : Own _ wA.heap.size #[.int .i64 4, .int .i64 0, .string ⟨#[]⟩, .bool false, .int .i64 8] := bg.at 0 rfl; have cA := oA.cell; have lA := oA.lt) | skip)) | (go_at_call 17; (with_reducible refine (ltxt _ _).mono ?_); rintro e w1 ⟨rfl, hb1⟩; have hB1 : Below w.heap.size w w1 := bup (by with_reducible (repeat' first | assumption | exact Below.refl _ _ | refine Below.drew ?_ | refine bdrewN ?_ _ | refine Below.setCell ?_ (by first | exact Nat.le_refl _ | (simp; done) | (simp; omega) | omega) _ | refine Below.alloc ?_ (by first | exact Nat.le_refl _ | (simp; done) | (simp; omega) | omega) _)) hb1; (first | replace bg := Bag.keep bg hb1 | replace bg := Bag.keep (Bag.new bg _ _) hb1 | replace bg := Bag.keep (textsParts.Bag.drew bg) hb1); have z1 := hB1.size; (first | (have oA : Own _ wA.heap.size #[.int .i64 4, .int .i64 0, .string ⟨#[]⟩, .bool false, .int .i64 8] := bg.at 0 rfl; have cA := oA.cell; have lA := oA.lt) | skip)) | (go_at_call 18; (with_reducible refine (lwhole _ _ m3).mono ?_); rintro e w1 ⟨rfl, hb1⟩; have hB1 : Below w.heap.size w w1 := bup (by with_reducible (repeat' first | assumption | exact Below.refl _ _ | refine Below.drew ?_ | refine bdrewN ?_ _ | refine Below.setCell ?_ (by first | exact Nat.le_refl _ | (simp; done) | (simp; omega) | omega) _ | refine Below.alloc ?_ (by first | exact Nat.le_refl _ | (simp; done) | (simp; omega) | omega) _)) hb1; (first | replace bg := Bag.keep bg hb1 | replace bg := Bag.keep (Bag.new bg _ _) hb1 | replace bg := Bag.keep (textsParts.Bag.drew bg) hb1); have z1 := hB1.size; (first | (have oA : Own _ wA.heap.size #[.int .i64 4, .int .i64 0, .string ⟨#[]⟩, .bool false, .int .i64 8] := bg.at 0 rfl; have cA := oA.cell; have lA := oA.lt) | skip)) | (go_at_call 16; (with_reducible refine (llist_2 _ _ _ _ _ _ _ _ _ _).mono ?_); rintro e w1 ⟨⟨p1, c1, rfl, hv1⟩, hb1⟩; have hB1 : Below w.heap.size w w1 := bup (by with_reducible (repeat' first | assumption | exact Below.refl _ _ | refine Below.drew ?_ | refine bdrewN ?_ _ | refine Below.setCell ?_ (by first | exact Nat.le_refl _ | (simp; done) | (simp; omega) | omega) _ | refine Below.alloc ?_ (by first | exact Nat.le_refl _ | (simp; done) | (simp; omega) | omega) _)) hb1; (first | replace bg := Bag.keep bg hb1 | replace bg := Bag.keep (Bag.new bg _ _) hb1 | replace bg := Bag.keep (textsParts.Bag.drew bg) hb1); have z1 := hB1.size; (first | (have oA : Own _ wA.heap.size #[.int .i64 4, .int .i64 0, .string ⟨#[]⟩, .bool false, .int .i64 8] := bg.at 0 rfl; have cA := oA.cell; have lA := oA.lt) | skip)) | (go_at_call 16; (with_reducible refine (llist_3 _ _ _ _ _ _ _ _ _ _).mono ?_); rintro e w1 ⟨⟨p1, c1, rfl, hv1⟩, hb1⟩; have hB1 : Below w.heap.size w w1 := bup (by with_reducible (repeat' first | assumption | exact Below.refl _ _ | refine Below.drew ?_ | refine bdrewN ?_ _ | refine Below.setCell ?_ (by first | exact Nat.le_refl _ | (simp; done) | (simp; omega) | omega) _ | refine Below.alloc ?_ (by first | exact Nat.le_refl _ | (simp; done) | (simp; omega) | omega) _)) hb1; (first | replace bg := Bag.keep bg hb1 | replace bg := Bag.keep (Bag.new bg _ _) hb1 | replace bg := Bag.keep (textsParts.Bag.drew bg) hb1); have z1 := hB1.size; (first | (have oA : Own _ wA.heap.size #[.int .i64 4, .int .i64 0, .string ⟨#[]⟩, .bool false, .int .i64 8] := bg.at 0 rfl; have cA := oA.cell; have lA := oA.lt) | skip)) | (go_at_call_has 9 (Value.string ⟨#[67, 79, 78, 67, 65, 84]⟩); (with_reducible refine (call_bad _ kc _ _ _ hxx).mono ?_); rintro e wA ⟨rfl, hb1⟩; have hB1 : Below w.heap.size w wA := bup (by with_reducible (repeat' first | assumption | exact Below.refl _ _ | refine Below.drew ?_ | refine bdrewN ?_ _ | refine Below.setCell ?_ (by first | exact Nat.le_refl _ | (simp; done) | (simp; omega) | omega) _ | refine Below.alloc ?_ (by first | exact Nat.le_refl _ | (simp; done) | (simp; omega) | omega) _)) hb1; (first | replace bg := Bag.keep bg hb1 | replace bg := Bag.keep (Bag.new bg _ _) hb1 | replace bg := Bag.keep (textsParts.Bag.drew bg) hb1); have z1 := hB1.size) | (go_at_call_has 9 (Value.string ⟨#[82, 69, 80, 84]⟩); (with_reducible refine (call_bad _ kr _ _ _ hxx).mono ?_); rintro e w1 ⟨rfl, hb1⟩; have hB1 : Below w.heap.size w w1 := bup (by with_reducible (repeat' first | assumption | exact Below.refl _ _ | refine Below.drew ?_ | refine bdrewN ?_ _ | refine Below.setCell ?_ (by first | exact Nat.le_refl _ | (simp; done) | (simp; omega) | omega) _ | refine Below.alloc ?_ (by first | exact Nat.le_refl _ | (simp; done) | (simp; omega) | omega) _)) hb1; (first | replace bg := Bag.keep bg hb1 | replace bg := Bag.keep (Bag.new bg _ _) hb1 | replace bg := Bag.keep (textsParts.Bag.drew bg) hb1); have z1 := hB1.size; (first | (have oA : Own _ wA.heap.size #[.int .i64 4, .int .i64 0, .string ⟨#[]⟩, .bool false, .int .i64 8] := bg.at 0 rfl; have cA := oA.cell; have lA := oA.lt) | skip)) | (go_at_call 20; (with_reducible refine (lfault_t 8 _).mono ?_); rintro e w1 ⟨rfl, hb1⟩; have hB1 : Below w.heap.size w w1 := bup (by with_reducible (repeat' first | assumption | exact Below.refl _ _ | refine Below.drew ?_ | refine bdrewN ?_ _ | refine Below.setCell ?_ (by first | exact Nat.le_refl _ | (simp; done) | (simp; omega) | omega) _ | refine Below.alloc ?_ (by first | exact Nat.le_refl _ | (simp; done) | (simp; omega) | omega) _)) hb1; (first | replace bg := Bag.keep bg hb1 | replace bg := Bag.keep (Bag.new bg _ _) hb1 | replace bg := Bag.keep (textsParts.Bag.drew bg) hb1); have z1 := hB1.size; (first | (have oA : Own _ wA.heap.size #[.int .i64 4, .int .i64 0, .string ⟨#[]⟩, .bool false, .int .i64 8] := bg.at 0 rfl; have cA := oA.cell; have lA := oA.lt) | skip)))
  go_ret
  exact ⟨rfl, by with_reducible (repeat' first | assumption | exact Below.refl _ _ | refine Below.drew ?_ | refine bdrewN ?_ _ | refine Below.setCell ?_ (by first | exact Nat.le_refl _ | (simp; done) | (simp; omega) | omega) _ | refine Below.alloc ?_ (by first | exact Nat.le_refl _ | (simp; done) | (simp; omega) | omega) _)⟩
set_option maxRecDepth 100000 in
set_option maxHeartbeats 1000000 in
theorem j_hi (a b : ByteArray) (x : Int) (w : World) (ha : a.size ≤ 1048576) (hb : b.size ≤ 1048576) (hx : ¬ x < 0) (hx2 : 1024 < x) (hP : Pow w) : Calls Tryz.prog 7 #[.string a, .string b, .int .i64 x] w fun e w' => e = .returned (.bool true) ∧ Below w.heap.size w w' := by
  have mixed : Tryz.prog.follows .mixedOrders = true := by kernel_rfl
  have m3 : Mod 3 := ⟨by decide, by decide⟩
  have kc : nmI ⟨#[67, 79, 78, 67, 65, 84]⟩ < 16 := by rw [nm_concat]; decide
  have kr : nmI ⟨#[82, 69, 80, 84]⟩ < 16 := by rw [nm_rept]; decide
  have hxx : x < 0 ∨ 1024 < x := .inr hx2
  have bg : Bag w [] := Bag.nil w
  go_enter Tryz.func7, Tryz.ntmps7
  go_wp2_with (first | (go_at_call 11; (with_reducible refine (known_law _ hP).mono ?_); rintro e w1 ⟨rfl, hb1⟩; have hB1 : Below w.heap.size w w1 := bup (by with_reducible (repeat' first | assumption | exact Below.refl _ _ | refine Below.drew ?_ | refine bdrewN ?_ _ | refine Below.setCell ?_ (by first | exact Nat.le_refl _ | (simp; done) | (simp; omega) | omega) _ | refine Below.alloc ?_ (by first | exact Nat.le_refl _ | (simp; done) | (simp; omega) | omega) _)) hb1; (first | replace bg := Bag.keep bg hb1 | replace bg := Bag.keep (Bag.new bg _ _) hb1 | replace bg := Bag.keep (textsParts.Bag.drew bg) hb1); have z1 := hB1.size; (first | (have oA : Own _ wA.heap.size #[.int .i64 4, .int .i64 0, .string ⟨#[]⟩, .bool false, .int .i64 8] := bg.at 0 rfl; have cA := oA.cell; have lA := oA.lt) | skip)) | (go_at_call 17; (with_reducible refine (ltxt _ _).mono ?_); rintro e w1 ⟨rfl, hb1⟩; have hB1 : Below w.heap.size w w1 := bup (by with_reducible (repeat' first | assumption | exact Below.refl _ _ | refine Below.drew ?_ | refine bdrewN ?_ _ | refine Below.setCell ?_ (by first | exact Nat.le_refl _ | (simp; done) | (simp; omega) | omega) _ | refine Below.alloc ?_ (by first | exact Nat.le_refl _ | (simp; done) | (simp; omega) | omega) _)) hb1; (first | replace bg := Bag.keep bg hb1 | replace bg := Bag.keep (Bag.new bg _ _) hb1 | replace bg := Bag.keep (textsParts.Bag.drew bg) hb1); have z1 := hB1.size; (first | (have oA : Own _ wA.heap.size #[.int .i64 4, .int .i64 0, .string ⟨#[]⟩, .bool false, .int .i64 8] := bg.at 0 rfl; have cA := oA.cell; have lA := oA.lt) | skip)) | (go_at_call 18; (with_reducible refine (lwhole _ _ m3).mono ?_); rintro e w1 ⟨rfl, hb1⟩; have hB1 : Below w.heap.size w w1 := bup (by with_reducible (repeat' first | assumption | exact Below.refl _ _ | refine Below.drew ?_ | refine bdrewN ?_ _ | refine Below.setCell ?_ (by first | exact Nat.le_refl _ | (simp; done) | (simp; omega) | omega) _ | refine Below.alloc ?_ (by first | exact Nat.le_refl _ | (simp; done) | (simp; omega) | omega) _)) hb1; (first | replace bg := Bag.keep bg hb1 | replace bg := Bag.keep (Bag.new bg _ _) hb1 | replace bg := Bag.keep (textsParts.Bag.drew bg) hb1); have z1 := hB1.size; (first | (have oA : Own _ wA.heap.size #[.int .i64 4, .int .i64 0, .string ⟨#[]⟩, .bool false, .int .i64 8] := bg.at 0 rfl; have cA := oA.cell; have lA := oA.lt) | skip)) | (go_at_call 16; (with_reducible refine (llist_2 _ _ _ _ _ _ _ _ _ _).mono ?_); rintro e w1 ⟨⟨p1, c1, rfl, hv1⟩, hb1⟩; have hB1 : Below w.heap.size w w1 := bup (by with_reducible (repeat' first | assumption | exact Below.refl _ _ | refine Below.drew ?_ | refine bdrewN ?_ _ | refine Below.setCell ?_ (by first | exact Nat.le_refl _ | (simp; done) | (simp; omega) | omega) _ | refine Below.alloc ?_ (by first | exact Nat.le_refl _ | (simp; done) | (simp; omega) | omega) _)) hb1; (first | replace bg := Bag.keep bg hb1 | replace bg := Bag.keep (Bag.new bg _ _) hb1 | replace bg := Bag.keep (textsParts.Bag.drew bg) hb1); have z1 := hB1.size; (first | (have oA : Own _ wA.heap.size #[.int .i64 4, .int .i64 0, .string ⟨#[]⟩, .bool false, .int .i64 8] := bg.at 0 rfl; have cA := oA.cell; have lA := oA.lt) | skip)) | (go_at_call 16; (with_reducible refine (llist_3 _ _ _ _ _ _ _ _ _ _).mono ?_); rintro e w1 ⟨⟨p1, c1, rfl, hv1⟩, hb1⟩; have hB1 : Below w.heap.size w w1 := bup (by with_reducible (repeat' first | assumption | exact Below.refl _ _ | refine Below.drew ?_ | refine bdrewN ?_ _ | refine Below.setCell ?_ (by first | exact Nat.le_refl _ | (simp; done) | (simp; omega) | omega) _ | refine Below.alloc ?_ (by first | exact Nat.le_refl _ | (simp; done) | (simp; omega) | omega) _)) hb1; (first | replace bg := Bag.keep bg hb1 | replace bg := Bag.keep (Bag.new bg _ _) hb1 | replace bg := Bag.keep (textsParts.Bag.drew bg) hb1); have z1 := hB1.size; (first | (have oA : Own _ wA.heap.size #[.int .i64 4, .int .i64 0, .string ⟨#[]⟩, .bool false, .int .i64 8] := bg.at 0 rfl; have cA := oA.cell; have lA := oA.lt) | skip)) | (go_at_call_has 9 (Value.string ⟨#[67, 79, 78, 67, 65, 84]⟩); (with_reducible refine (call_bad _ kc _ _ _ hxx).mono ?_); rintro e wA ⟨rfl, hb1⟩; have hB1 : Below w.heap.size w wA := bup (by with_reducible (repeat' first | assumption | exact Below.refl _ _ | refine Below.drew ?_ | refine bdrewN ?_ _ | refine Below.setCell ?_ (by first | exact Nat.le_refl _ | (simp; done) | (simp; omega) | omega) _ | refine Below.alloc ?_ (by first | exact Nat.le_refl _ | (simp; done) | (simp; omega) | omega) _)) hb1; (first | replace bg := Bag.keep bg hb1 | replace bg := Bag.keep (Bag.new bg _ _) hb1 | replace bg := Bag.keep (textsParts.Bag.drew bg) hb1); have z1 := hB1.size) | (go_at_call_has 9 (Value.string ⟨#[82, 69, 80, 84]⟩); (with_reducible refine (call_bad _ kr _ _ _ hxx).mono ?_); rintro e w1 ⟨rfl, hb1⟩; have hB1 : Below w.heap.size w w1 := bup (by with_reducible (repeat' first | assumption | exact Below.refl _ _ | refine Below.drew ?_ | refine bdrewN ?_ _ | refine Below.setCell ?_ (by first | exact Nat.le_refl _ | (simp; done) | (simp; omega) | omega) _ | refine Below.alloc ?_ (by first | exact Nat.le_refl _ | (simp; done) | (simp; omega) | omega) _)) hb1; (first | replace bg := Bag.keep bg hb1 | replace bg := Bag.keep (Bag.new bg _ _) hb1 | replace bg := Bag.keep (textsParts.Bag.drew bg) hb1); have z1 := hB1.size; (first | (have oA : Own _ wA.heap.size #[.int .i64 4, .int .i64 0, .string ⟨#[]⟩, .bool false, .int .i64 8] := bg.at 0 rfl; have cA := oA.cell; have lA := oA.lt) | skip)) | (go_at_call 20; (with_reducible refine (lfault_t 8 _).mono ?_); rintro e w1 ⟨rfl, hb1⟩; have hB1 : Below w.heap.size w w1 := bup (by with_reducible (repeat' first | assumption | exact Below.refl _ _ | refine Below.drew ?_ | refine bdrewN ?_ _ | refine Below.setCell ?_ (by first | exact Nat.le_refl _ | (simp; done) | (simp; omega) | omega) _ | refine Below.alloc ?_ (by first | exact Nat.le_refl _ | (simp; done) | (simp; omega) | omega) _)) hb1; (first | replace bg := Bag.keep bg hb1 | replace bg := Bag.keep (Bag.new bg _ _) hb1 | replace bg := Bag.keep (textsParts.Bag.drew bg) hb1); have z1 := hB1.size; (first | (have oA : Own _ wA.heap.size #[.int .i64 4, .int .i64 0, .string ⟨#[]⟩, .bool false, .int .i64 8] := bg.at 0 rfl; have cA := oA.cell; have lA := oA.lt) | skip)))
  go_ret
  exact ⟨rfl, by with_reducible (repeat' first | assumption | exact Below.refl _ _ | refine Below.drew ?_ | refine bdrewN ?_ _ | refine Below.setCell ?_ (by first | exact Nat.le_refl _ | (simp; done) | (simp; omega) | omega) _ | refine Below.alloc ?_ (by first | exact Nat.le_refl _ | (simp; done) | (simp; omega) | omega) _)⟩
set_option maxRecDepth 100000 in
set_option maxHeartbeats 1000000 in
theorem j_long (a b : ByteArray) (x : Int) (w : World) (ha : a.size ≤ 1048576) (hb : b.size ≤ 1048576) (hx : ¬ x < 0) (hx2 : ¬ 1024 < x) (hl : x < (a.size : Int) + b.size + a.size) (hP : Pow w) : Calls Tryz.prog 7 #[.string a, .string b, .int .i64 x] w fun e w' => e = .returned (.bool true) ∧ Below w.heap.size w w' := by
  have mixed : Tryz.prog.follows .mixedOrders = true := by kernel_rfl
  have m3 : Mod 3 := ⟨by decide, by decide⟩
  have h0 : 0 ≤ x := by omega
  have h1 : x ≤ 1024 := by omega
  obtain ⟨al, hal⟩ : ∃ r, r = a ++ b ++ a := ⟨_, rfl⟩
  obtain ⟨r3, hr3⟩ : ∃ r, r = a ++ a ++ a := ⟨_, rfl⟩
  have HAL : Hid _ := hal
  have HR3 : Hid _ := hr3
  have s1 : (al.size : Int) = (a.size : Int) + b.size + a.size := by rw [hal, sz3]; omega
  have hal2 : a ++ b ++ a = al := hal.symm
  have c1 : ¬ (9223372036854775807 : Int) < (a.size : Int) + (b.size : Int) := by omega
  have c2 : ¬ (9223372036854775807 : Nat) < a.size + b.size := by omega
  have c3 : ¬ (9223372036854775807 : Nat) < a.size + b.size + a.size := by omega
  have c4 : ¬ (9223372036854775807 : Nat) < (a ++ b).size + a.size := by rw [ByteArray.size_append]; omega
  have e3 := eq_v (toT r3 x) 0 (toS r3 x) (toC r3 x)
  clear hal hr3
  have q1 : x < (al.size : Int) := by omega
  have q2 : toT al x = 4 := by unfold toT; rw [if_pos q1]
  have q3 : toS al x = ⟨#[]⟩ := by unfold toS; rw [if_pos q1]
  have q4 : toC al x = 7 := by unfold toC; rw [if_pos q1]
  have bg : Bag w [] := Bag.nil w
  go_enter Tryz.func7, Tryz.ntmps7
  go_wp2_with (first | (go_at_call 11; (with_reducible refine (known_law _ hP).mono ?_); rintro e w1 ⟨rfl, hb1⟩; have hB1 : Below w.heap.size w w1 := bup (by with_reducible (repeat' first | assumption | exact Below.refl _ _ | refine Below.drew ?_ | refine bdrewN ?_ _ | refine Below.setCell ?_ (by first | exact Nat.le_refl _ | (simp; done) | (simp; omega) | omega) _ | refine Below.alloc ?_ (by first | exact Nat.le_refl _ | (simp; done) | (simp; omega) | omega) _)) hb1; (first | replace bg := Bag.keep bg hb1 | replace bg := Bag.keep (Bag.new bg _ _) hb1 | replace bg := Bag.keep (textsParts.Bag.drew bg) hb1); have z1 := hB1.size; (first | (have oA : Own _ wA.heap.size #[.int .i64 4, .int .i64 0, .string ⟨#[]⟩, .bool false, .int .i64 7] := bg.at 0 rfl; have cA := oA.cell; have lA := oA.lt) | skip)) | (go_at_call 17; (with_reducible refine (ltxt _ _).mono ?_); rintro e w1 ⟨rfl, hb1⟩; have hB1 : Below w.heap.size w w1 := bup (by with_reducible (repeat' first | assumption | exact Below.refl _ _ | refine Below.drew ?_ | refine bdrewN ?_ _ | refine Below.setCell ?_ (by first | exact Nat.le_refl _ | (simp; done) | (simp; omega) | omega) _ | refine Below.alloc ?_ (by first | exact Nat.le_refl _ | (simp; done) | (simp; omega) | omega) _)) hb1; (first | replace bg := Bag.keep bg hb1 | replace bg := Bag.keep (Bag.new bg _ _) hb1 | replace bg := Bag.keep (textsParts.Bag.drew bg) hb1); have z1 := hB1.size; (first | (have oA : Own _ wA.heap.size #[.int .i64 4, .int .i64 0, .string ⟨#[]⟩, .bool false, .int .i64 7] := bg.at 0 rfl; have cA := oA.cell; have lA := oA.lt) | skip)) | (go_at_call 18; (with_reducible refine (lwhole _ _ m3).mono ?_); rintro e w1 ⟨rfl, hb1⟩; have hB1 : Below w.heap.size w w1 := bup (by with_reducible (repeat' first | assumption | exact Below.refl _ _ | refine Below.drew ?_ | refine bdrewN ?_ _ | refine Below.setCell ?_ (by first | exact Nat.le_refl _ | (simp; done) | (simp; omega) | omega) _ | refine Below.alloc ?_ (by first | exact Nat.le_refl _ | (simp; done) | (simp; omega) | omega) _)) hb1; (first | replace bg := Bag.keep bg hb1 | replace bg := Bag.keep (Bag.new bg _ _) hb1 | replace bg := Bag.keep (textsParts.Bag.drew bg) hb1); have z1 := hB1.size; (first | (have oA : Own _ wA.heap.size #[.int .i64 4, .int .i64 0, .string ⟨#[]⟩, .bool false, .int .i64 7] := bg.at 0 rfl; have cA := oA.cell; have lA := oA.lt) | skip)) | (go_at_call 16; (with_reducible refine (llist_2 _ _ _ _ _ _ _ _ _ _).mono ?_); rintro e w1 ⟨⟨p1, c1, rfl, hv1⟩, hb1⟩; have hB1 : Below w.heap.size w w1 := bup (by with_reducible (repeat' first | assumption | exact Below.refl _ _ | refine Below.drew ?_ | refine bdrewN ?_ _ | refine Below.setCell ?_ (by first | exact Nat.le_refl _ | (simp; done) | (simp; omega) | omega) _ | refine Below.alloc ?_ (by first | exact Nat.le_refl _ | (simp; done) | (simp; omega) | omega) _)) hb1; (first | replace bg := Bag.keep bg hb1 | replace bg := Bag.keep (Bag.new bg _ _) hb1 | replace bg := Bag.keep (textsParts.Bag.drew bg) hb1); have z1 := hB1.size; (first | (have oA : Own _ wA.heap.size #[.int .i64 4, .int .i64 0, .string ⟨#[]⟩, .bool false, .int .i64 7] := bg.at 0 rfl; have cA := oA.cell; have lA := oA.lt) | skip)) | (go_at_call 16; (with_reducible refine (llist_3 _ _ _ _ _ _ _ _ _ _).mono ?_); rintro e w1 ⟨⟨p1, c1, rfl, hv1⟩, hb1⟩; have hB1 : Below w.heap.size w w1 := bup (by with_reducible (repeat' first | assumption | exact Below.refl _ _ | refine Below.drew ?_ | refine bdrewN ?_ _ | refine Below.setCell ?_ (by first | exact Nat.le_refl _ | (simp; done) | (simp; omega) | omega) _ | refine Below.alloc ?_ (by first | exact Nat.le_refl _ | (simp; done) | (simp; omega) | omega) _)) hb1; (first | replace bg := Bag.keep bg hb1 | replace bg := Bag.keep (Bag.new bg _ _) hb1 | replace bg := Bag.keep (textsParts.Bag.drew bg) hb1); have z1 := hB1.size; (first | (have oA : Own _ wA.heap.size #[.int .i64 4, .int .i64 0, .string ⟨#[]⟩, .bool false, .int .i64 7] := bg.at 0 rfl; have cA := oA.cell; have lA := oA.lt) | skip)) | (go_at_call_has 9 (Value.string ⟨#[67, 79, 78, 67, 65, 84]⟩); (with_reducible refine (call_cat a b a al HAL.out _ _ _ hv1 (hP.up hB1) h0 h1 ha hb ha).mono ?_); rintro e wA ⟨rfl, hb1⟩; have hB1 : Below w.heap.size w wA := bup (by with_reducible (repeat' first | assumption | exact Below.refl _ _ | refine Below.drew ?_ | refine bdrewN ?_ _ | refine Below.setCell ?_ (by first | exact Nat.le_refl _ | (simp; done) | (simp; omega) | omega) _ | refine Below.alloc ?_ (by first | exact Nat.le_refl _ | (simp; done) | (simp; omega) | omega) _)) hb1; (first | replace bg := Bag.keep bg hb1 | replace bg := Bag.keep (Bag.new bg _ _) hb1 | replace bg := Bag.keep (textsParts.Bag.drew bg) hb1); have z1 := hB1.size; rw [q2, q3, q4]) | (go_at_call_has 9 (Value.string ⟨#[67, 79, 78, 67, 65, 84]⟩); (with_reducible refine (call_cat a a a r3 HR3.out _ _ _ hv1 (hP.up hB1) h0 h1 ha ha ha).mono ?_); rintro e w1 ⟨rfl, hb1⟩; have hB1 : Below w.heap.size w w1 := bup (by with_reducible (repeat' first | assumption | exact Below.refl _ _ | refine Below.drew ?_ | refine bdrewN ?_ _ | refine Below.setCell ?_ (by first | exact Nat.le_refl _ | (simp; done) | (simp; omega) | omega) _ | refine Below.alloc ?_ (by first | exact Nat.le_refl _ | (simp; done) | (simp; omega) | omega) _)) hb1; (first | replace bg := Bag.keep bg hb1 | replace bg := Bag.keep (Bag.new bg _ _) hb1 | replace bg := Bag.keep (textsParts.Bag.drew bg) hb1); have z1 := hB1.size; (first | (have oA : Own _ wA.heap.size #[.int .i64 4, .int .i64 0, .string ⟨#[]⟩, .bool false, .int .i64 7] := bg.at 0 rfl; have cA := oA.cell; have lA := oA.lt) | skip)) | (go_at_call_has 9 (Value.string ⟨#[82, 69, 80, 84]⟩); (with_reducible refine (call_rept a r3 HR3.out _ _ _ _ (by omega) hv1 (hP.up hB1) h0 h1 ha).mono ?_); rintro e w1 ⟨rfl, hb1⟩; have hB1 : Below w.heap.size w w1 := bup (by with_reducible (repeat' first | assumption | exact Below.refl _ _ | refine Below.drew ?_ | refine bdrewN ?_ _ | refine Below.setCell ?_ (by first | exact Nat.le_refl _ | (simp; done) | (simp; omega) | omega) _ | refine Below.alloc ?_ (by first | exact Nat.le_refl _ | (simp; done) | (simp; omega) | omega) _)) hb1; (first | replace bg := Bag.keep bg hb1 | replace bg := Bag.keep (Bag.new bg _ _) hb1 | replace bg := Bag.keep (textsParts.Bag.drew bg) hb1); have z1 := hB1.size; (first | (have oA : Own _ wA.heap.size #[.int .i64 4, .int .i64 0, .string ⟨#[]⟩, .bool false, .int .i64 7] := bg.at 0 rfl; have cA := oA.cell; have lA := oA.lt) | skip)) | (go_at_call 20; (with_reducible refine (lfault_t 7 _).mono ?_); rintro e w1 ⟨rfl, hb1⟩; have hB1 : Below w.heap.size w w1 := bup (by with_reducible (repeat' first | assumption | exact Below.refl _ _ | refine Below.drew ?_ | refine bdrewN ?_ _ | refine Below.setCell ?_ (by first | exact Nat.le_refl _ | (simp; done) | (simp; omega) | omega) _ | refine Below.alloc ?_ (by first | exact Nat.le_refl _ | (simp; done) | (simp; omega) | omega) _)) hb1; (first | replace bg := Bag.keep bg hb1 | replace bg := Bag.keep (Bag.new bg _ _) hb1 | replace bg := Bag.keep (textsParts.Bag.drew bg) hb1); have z1 := hB1.size; (first | (have oA : Own _ wA.heap.size #[.int .i64 4, .int .i64 0, .string ⟨#[]⟩, .bool false, .int .i64 7] := bg.at 0 rfl; have cA := oA.cell; have lA := oA.lt) | skip)))
  go_ret
  exact ⟨rfl, by with_reducible (repeat' first | assumption | exact Below.refl _ _ | refine Below.drew ?_ | refine bdrewN ?_ _ | refine Below.setCell ?_ (by first | exact Nat.le_refl _ | (simp; done) | (simp; omega) | omega) _ | refine Below.alloc ?_ (by first | exact Nat.le_refl _ | (simp; done) | (simp; omega) | omega) _)⟩
set_option maxRecDepth 100000 in
set_option maxHeartbeats 1000000 in
theorem j_fit (a b : ByteArray) (x : Int) (w : World) (ha : a.size ≤ 1048576) (hb : b.size ≤ 1048576) (hx : ¬ x < 0) (hx2 : ¬ 1024 < x) (hl : ¬ x < (a.size : Int) + b.size + a.size) (hP : Pow w) : Calls Tryz.prog 7 #[.string a, .string b, .int .i64 x] w fun e w' => e = .returned (.bool true) ∧ Below w.heap.size w w' := by
  have mixed : Tryz.prog.follows .mixedOrders = true := by kernel_rfl
  have m3 : Mod 3 := ⟨by decide, by decide⟩
  have h0 : 0 ≤ x := by omega
  have h1 : x ≤ 1024 := by omega
  obtain ⟨al, hal⟩ : ∃ r, r = a ++ b ++ a := ⟨_, rfl⟩
  obtain ⟨r3, hr3⟩ : ∃ r, r = a ++ a ++ a := ⟨_, rfl⟩
  have HAL : Hid _ := hal
  have HR3 : Hid _ := hr3
  have s1 : (al.size : Int) = (a.size : Int) + b.size + a.size := by rw [hal, sz3]; omega
  have hal2 : a ++ b ++ a = al := hal.symm
  have c1 : ¬ (9223372036854775807 : Int) < (a.size : Int) + (b.size : Int) := by omega
  have c2 : ¬ (9223372036854775807 : Nat) < a.size + b.size := by omega
  have c3 : ¬ (9223372036854775807 : Nat) < a.size + b.size + a.size := by omega
  have c4 : ¬ (9223372036854775807 : Nat) < (a ++ b).size + a.size := by rw [ByteArray.size_append]; omega
  have e3 := eq_v (toT r3 x) 0 (toS r3 x) (toC r3 x)
  clear hal hr3
  have q1 : ¬ x < (al.size : Int) := by omega
  have q2 : toT al x = 2 := by unfold toT; rw [if_neg q1]
  have q3 : toS al x = al := by unfold toS; rw [if_neg q1]
  have q4 : toC al x = 0 := by unfold toC; rw [if_neg q1]
  have bg : Bag w [] := Bag.nil w
  go_enter Tryz.func7, Tryz.ntmps7
  go_wp2_with (first | (go_at_call 11; (with_reducible refine (known_law _ hP).mono ?_); rintro e w1 ⟨rfl, hb1⟩; have hB1 : Below w.heap.size w w1 := bup (by with_reducible (repeat' first | assumption | exact Below.refl _ _ | refine Below.drew ?_ | refine bdrewN ?_ _ | refine Below.setCell ?_ (by first | exact Nat.le_refl _ | (simp; done) | (simp; omega) | omega) _ | refine Below.alloc ?_ (by first | exact Nat.le_refl _ | (simp; done) | (simp; omega) | omega) _)) hb1; (first | replace bg := Bag.keep bg hb1 | replace bg := Bag.keep (Bag.new bg _ _) hb1 | replace bg := Bag.keep (textsParts.Bag.drew bg) hb1); have z1 := hB1.size; (first | (have oA : Own _ wA.heap.size #[.int .i64 2, .int .i64 0, .string al, .bool false, .int .i64 0] := bg.at 0 rfl; have cA := oA.cell; have lA := oA.lt) | skip)) | (go_at_call 17; (with_reducible refine (ltxt _ _).mono ?_); rintro e w1 ⟨rfl, hb1⟩; have hB1 : Below w.heap.size w w1 := bup (by with_reducible (repeat' first | assumption | exact Below.refl _ _ | refine Below.drew ?_ | refine bdrewN ?_ _ | refine Below.setCell ?_ (by first | exact Nat.le_refl _ | (simp; done) | (simp; omega) | omega) _ | refine Below.alloc ?_ (by first | exact Nat.le_refl _ | (simp; done) | (simp; omega) | omega) _)) hb1; (first | replace bg := Bag.keep bg hb1 | replace bg := Bag.keep (Bag.new bg _ _) hb1 | replace bg := Bag.keep (textsParts.Bag.drew bg) hb1); have z1 := hB1.size; (first | (have oA : Own _ wA.heap.size #[.int .i64 2, .int .i64 0, .string al, .bool false, .int .i64 0] := bg.at 0 rfl; have cA := oA.cell; have lA := oA.lt) | skip)) | (go_at_call 18; (with_reducible refine (lwhole _ _ m3).mono ?_); rintro e w1 ⟨rfl, hb1⟩; have hB1 : Below w.heap.size w w1 := bup (by with_reducible (repeat' first | assumption | exact Below.refl _ _ | refine Below.drew ?_ | refine bdrewN ?_ _ | refine Below.setCell ?_ (by first | exact Nat.le_refl _ | (simp; done) | (simp; omega) | omega) _ | refine Below.alloc ?_ (by first | exact Nat.le_refl _ | (simp; done) | (simp; omega) | omega) _)) hb1; (first | replace bg := Bag.keep bg hb1 | replace bg := Bag.keep (Bag.new bg _ _) hb1 | replace bg := Bag.keep (textsParts.Bag.drew bg) hb1); have z1 := hB1.size; (first | (have oA : Own _ wA.heap.size #[.int .i64 2, .int .i64 0, .string al, .bool false, .int .i64 0] := bg.at 0 rfl; have cA := oA.cell; have lA := oA.lt) | skip)) | (go_at_call 16; (with_reducible refine (llist_2 _ _ _ _ _ _ _ _ _ _).mono ?_); rintro e w1 ⟨⟨p1, c1, rfl, hv1⟩, hb1⟩; have hB1 : Below w.heap.size w w1 := bup (by with_reducible (repeat' first | assumption | exact Below.refl _ _ | refine Below.drew ?_ | refine bdrewN ?_ _ | refine Below.setCell ?_ (by first | exact Nat.le_refl _ | (simp; done) | (simp; omega) | omega) _ | refine Below.alloc ?_ (by first | exact Nat.le_refl _ | (simp; done) | (simp; omega) | omega) _)) hb1; (first | replace bg := Bag.keep bg hb1 | replace bg := Bag.keep (Bag.new bg _ _) hb1 | replace bg := Bag.keep (textsParts.Bag.drew bg) hb1); have z1 := hB1.size; (first | (have oA : Own _ wA.heap.size #[.int .i64 2, .int .i64 0, .string al, .bool false, .int .i64 0] := bg.at 0 rfl; have cA := oA.cell; have lA := oA.lt) | skip)) | (go_at_call 16; (with_reducible refine (llist_3 _ _ _ _ _ _ _ _ _ _).mono ?_); rintro e w1 ⟨⟨p1, c1, rfl, hv1⟩, hb1⟩; have hB1 : Below w.heap.size w w1 := bup (by with_reducible (repeat' first | assumption | exact Below.refl _ _ | refine Below.drew ?_ | refine bdrewN ?_ _ | refine Below.setCell ?_ (by first | exact Nat.le_refl _ | (simp; done) | (simp; omega) | omega) _ | refine Below.alloc ?_ (by first | exact Nat.le_refl _ | (simp; done) | (simp; omega) | omega) _)) hb1; (first | replace bg := Bag.keep bg hb1 | replace bg := Bag.keep (Bag.new bg _ _) hb1 | replace bg := Bag.keep (textsParts.Bag.drew bg) hb1); have z1 := hB1.size; (first | (have oA : Own _ wA.heap.size #[.int .i64 2, .int .i64 0, .string al, .bool false, .int .i64 0] := bg.at 0 rfl; have cA := oA.cell; have lA := oA.lt) | skip)) | (go_at_call_has 9 (Value.string ⟨#[67, 79, 78, 67, 65, 84]⟩); (with_reducible refine (call_cat a b a al HAL.out _ _ _ hv1 (hP.up hB1) h0 h1 ha hb ha).mono ?_); rintro e wA ⟨rfl, hb1⟩; have hB1 : Below w.heap.size w wA := bup (by with_reducible (repeat' first | assumption | exact Below.refl _ _ | refine Below.drew ?_ | refine bdrewN ?_ _ | refine Below.setCell ?_ (by first | exact Nat.le_refl _ | (simp; done) | (simp; omega) | omega) _ | refine Below.alloc ?_ (by first | exact Nat.le_refl _ | (simp; done) | (simp; omega) | omega) _)) hb1; (first | replace bg := Bag.keep bg hb1 | replace bg := Bag.keep (Bag.new bg _ _) hb1 | replace bg := Bag.keep (textsParts.Bag.drew bg) hb1); have z1 := hB1.size; rw [q2, q3, q4]) | (go_at_call_has 9 (Value.string ⟨#[67, 79, 78, 67, 65, 84]⟩); (with_reducible refine (call_cat a a a r3 HR3.out _ _ _ hv1 (hP.up hB1) h0 h1 ha ha ha).mono ?_); rintro e w1 ⟨rfl, hb1⟩; have hB1 : Below w.heap.size w w1 := bup (by with_reducible (repeat' first | assumption | exact Below.refl _ _ | refine Below.drew ?_ | refine bdrewN ?_ _ | refine Below.setCell ?_ (by first | exact Nat.le_refl _ | (simp; done) | (simp; omega) | omega) _ | refine Below.alloc ?_ (by first | exact Nat.le_refl _ | (simp; done) | (simp; omega) | omega) _)) hb1; (first | replace bg := Bag.keep bg hb1 | replace bg := Bag.keep (Bag.new bg _ _) hb1 | replace bg := Bag.keep (textsParts.Bag.drew bg) hb1); have z1 := hB1.size; (first | (have oA : Own _ wA.heap.size #[.int .i64 2, .int .i64 0, .string al, .bool false, .int .i64 0] := bg.at 0 rfl; have cA := oA.cell; have lA := oA.lt) | skip)) | (go_at_call_has 9 (Value.string ⟨#[82, 69, 80, 84]⟩); (with_reducible refine (call_rept a r3 HR3.out _ _ _ _ (by omega) hv1 (hP.up hB1) h0 h1 ha).mono ?_); rintro e w1 ⟨rfl, hb1⟩; have hB1 : Below w.heap.size w w1 := bup (by with_reducible (repeat' first | assumption | exact Below.refl _ _ | refine Below.drew ?_ | refine bdrewN ?_ _ | refine Below.setCell ?_ (by first | exact Nat.le_refl _ | (simp; done) | (simp; omega) | omega) _ | refine Below.alloc ?_ (by first | exact Nat.le_refl _ | (simp; done) | (simp; omega) | omega) _)) hb1; (first | replace bg := Bag.keep bg hb1 | replace bg := Bag.keep (Bag.new bg _ _) hb1 | replace bg := Bag.keep (textsParts.Bag.drew bg) hb1); have z1 := hB1.size; (first | (have oA : Own _ wA.heap.size #[.int .i64 2, .int .i64 0, .string al, .bool false, .int .i64 0] := bg.at 0 rfl; have cA := oA.cell; have lA := oA.lt) | skip)) | (go_at_call 19; (with_reducible refine (textsParts.lis_t _ _).mono ?_); rintro e w1 ⟨rfl, hb1⟩; have hB1 : Below w.heap.size w w1 := bup (by with_reducible (repeat' first | assumption | exact Below.refl _ _ | refine Below.drew ?_ | refine bdrewN ?_ _ | refine Below.setCell ?_ (by first | exact Nat.le_refl _ | (simp; done) | (simp; omega) | omega) _ | refine Below.alloc ?_ (by first | exact Nat.le_refl _ | (simp; done) | (simp; omega) | omega) _)) hb1; (first | replace bg := Bag.keep bg hb1 | replace bg := Bag.keep (Bag.new bg _ _) hb1 | replace bg := Bag.keep (textsParts.Bag.drew bg) hb1); have z1 := hB1.size; (first | (have oA : Own _ wA.heap.size #[.int .i64 2, .int .i64 0, .string al, .bool false, .int .i64 0] := bg.at 0 rfl; have cA := oA.cell; have lA := oA.lt) | skip)))
  go_ret
  exact ⟨rfl, by with_reducible (repeat' first | assumption | exact Below.refl _ _ | refine Below.drew ?_ | refine bdrewN ?_ _ | refine Below.setCell ?_ (by first | exact Nat.le_refl _ | (simp; done) | (simp; omega) | omega) _ | refine Below.alloc ?_ (by first | exact Nat.le_refl _ | (simp; done) | (simp; omega) | omega) _)⟩
theorem law (a b : ByteArray) (x : Int) (w : World) (hx : I64 x) (ha : a.size ≤ 1048576) (hb : b.size ≤ 1048576) (hP : Pow w) : Calls Tryz.prog 7 #[.string a, .string b, .int .i64 x] w fun e w' => e = .returned (.bool true) ∧ Below w.heap.size w w' := by
  by_cases h : x < 0
  · exact j_lo a b x w ha hb h hP
  · by_cases h2 : 1024 < x
    · exact j_hi a b x w ha hb h h2 hP
    · by_cases h3 : x < (a.size : Int) + b.size + a.size
      · exact j_long a b x w ha hb h h2 h3 hP
      · exact j_fit a b x w ha hb h h2 h3 hP
theorem reads (os : Os) {H : Type} (enc : TypeId × Value → H) : ∃ places, DataW.whole enc Tryz.prog ((World.laidAll Tryz.prog os tables).forCall (fun _ _ => 0) ⟨#[], #[.string ⟨#[]⟩, .string ⟨#[]⟩, .int .i64 0], []⟩).memory Tryz.f7.params.toList Rows.textsJoinsSpec.vars false #[.string ⟨#[]⟩, .string ⟨#[]⟩, .int .i64 0].toList 8 = some ([.lit (.string []), .lit (.string []), .lit (.int .i64 0)], [], places) :=
  ⟨[], by kernel_rfl⟩
theorem met (os : Os) : laidMetH Tryz.prog tables ((World.laidAll Tryz.prog os tables).forCall (fun _ _ => 0) ⟨#[], #[.string ⟨#[]⟩, .string ⟨#[]⟩, .int .i64 0], []⟩).memory := by
  rw [MakeChecks.laidMetH_plain _ _ _ (by kernel_rfl)]; exact laidMet_laidAll _ (by kernel_rfl) (by kernel_rfl)
set_option maxRecDepth 100000 in
theorem lifted (os : Os) (started : os.Started) (H : Type) (enc : TypeId × Value → H) (F : Stop.Interp) :
    ReturnsInHanded {} Tryz.checked os 7 .any ((Rows.OpenSpec.upto Rows.textsJoinsSpec).preRow enc Tryz.prog Tryz.f7 Rows.textsJoinsUptoRow.domain false Rows.textsJoinsUptoRow.laid) (((Rows.OpenSpec.upto Rows.textsJoinsSpec).at F).post enc Tryz.prog Tryz.f7 false true false false) := by
  obtain ⟨places, hx⟩ := reads os enc
  refine returnsInHanded_of_row (C := Tryz.checked) (s := Rows.OpenSpec.upto Rows.textsJoinsSpec) own started (by kernel_rfl) Tryz.func7
    (witness_row_at (enc := enc) (C := Tryz.checked) false (World.laidAll Tryz.prog os tables) #[.string ⟨#[]⟩, .string ⟨#[]⟩, .int .i64 0] (World.laidAll_os _ _ _) (by kernel_rfl) (by kernel_rfl) (by kernel_rfl)
      (OpenSpec.preRow_of_cond 8 hx (by kernel_rfl) (fun k hk => by cases hk; kernel_rfl) (by kernel_rfl) (met os))) ?_
  intro W base args ds gs before hval hW _ hcond _ hL hSh _
  have hW' := hW
  have hlt := hW.lt
  obtain ⟨p, q, hA0, hV, rfl, _, _⟩ := hW
  have hA : DataW.TrodAll enc Tryz.prog W 0 (fun _ => true) true Tryz.f7.params.toList args.toList ds p := hA0
  rw [Tryz.params7] at hA hval
  obtain ⟨v0, vs0, d0, ds0, p0, q0, hargs, rfl, rfl, h0, r0⟩ := trodAll_cons hA
  obtain ⟨v1, vs1, d1, ds1, p1, q1, rfl, rfl, rfl, h1, r1⟩ := trodAll_cons r0
  obtain ⟨v2, vs2, d2, ds2, p2, q2, rfl, rfl, rfl, h2, r2⟩ := trodAll_cons r1
  obtain ⟨rfl, rfl, rfl⟩ := trodAll_nil r2
  obtain rfl : args = #[v0, v1, v2] := by cases args; simp_all
  obtain ⟨rfl, rfl⟩ := trodVars_none hV
  obtain ⟨x0, rfl, rfl, rfl, wx0⟩ := ChangeMaps.open_string Tryz.underlying9 (hval 0 9 v0 rfl rfl) h0
  obtain ⟨x1, rfl, rfl, rfl, wx1⟩ := ChangeMaps.open_string Tryz.underlying9 (hval 1 9 v1 rfl rfl) h1
  obtain ⟨x2, rfl, rfl, rfl, wx2⟩ := open_int Tryz.underlying3 (hval 2 3 v2 rfl rfl) h2
  have hk : Rows.uptoBulkAll ([.lit (.string x0.data.toList), .lit (.string x1.data.toList), .lit (.int .i64 x2)] : List (DataW H)) ≤ 1048576 := of_decide_eq_true (hcond _ rfl)
  have sz0 : x0.size ≤ 1048576 := by
    simp only [Rows.uptoBulkAll, Rows.uptoBulk] at hk
    have e : x0.size = x0.data.toList.length := (show x0.data.size = x0.data.toList.length from Array.length_toList.symm)
    omega
  have sz1 : x1.size ≤ 1048576 := by
    simp only [Rows.uptoBulkAll, Rows.uptoBulk] at hk
    have e : x1.size = x1.data.toList.length := (show x1.data.size = x1.data.toList.length from Array.length_toList.symm)
    omega
  simp only [List.append_nil] at hW'
  refine (law x0 x1 x2 W (i64_of wx2) sz0 sz1 (pow_of_laid hL)).mono fun e W' ⟨he, hb⟩ => ?_
  subst he
  exact ⟨_, rfl, _, _, _, [], [], [], hW', trodAll_mk1 (shut_bool Tryz.underlying4 _), (trodAll_cons_mk (ChangeMaps.shut_string Tryz.underlying9 wx0) (trodAll_cons_mk (ChangeMaps.shut_string Tryz.underlying9 wx1) (trodAll_cons_mk (shut_int Tryz.underlying3 wx2) trodAll_mk0))), rfl, hb.frame _, fun h => by cases h⟩
theorem holds : Rows.TextsJoinsUptoSaid :=
  OpenClaim.holds_of_cond 7 Tryz.f7 rfl rfl rfl rfl rfl rfl rfl ⟨rfl, rfl, rfl, rfl, rfl⟩ rfl rfl rfl rfl rfl (by kernel_rfl) Tryz.func7 (by kernel_rfl)
    (of_decide_eq_true (by kernel_rfl)) (by unfold Func.isWrapper; first | (rw [if_pos (by decide +kernel)]; kernel_rfl) | (rw [if_neg (by decide +kernel)]; exact ⟨rfl, rfl⟩))
    (fun os started H enc _ F => by rw [OpenClaim.pre_eq_preRow]; exact lifted os started H enc F)
theorem plain (f : FuncId) (fn : Func) (hf : Tryz.pinned.checked.prog.funcNamed "oriel/oriellaw09.TextsJoins" = some f) (hfn : Tryz.pinned.checked.prog.funcs[f]? = some fn) :
    false = Tryz.pinned.checked.prog.looks [] ∧ ∀ (j : Nat) t, fn.params[j]? = some t → Tryz.pinned.checked.prog.wantsStandIn t = false := by
  obtain rfl : f = 7 := Option.some.inj ((show Tryz.prog.funcNamed "oriel/oriellaw09.TextsJoins" = some 7 by kernel_rfl).symm.trans hf) |>.symm
  obtain rfl : fn = Tryz.f7 := (Option.some.inj (Tryz.func7.symm.trans hfn)).symm
  refine ⟨by kernel_rfl, fun j t ht => ?_⟩
  rw [Tryz.params7] at ht
  have hm : t ∈ [9, 9, 3] := by simpa using Array.mem_of_getElem? ht
  have hall : ([9, 9, 3].all fun u => !Tryz.prog.wantsStandIn u) = true := by kernel_rfl
  exact (show Tryz.prog.wantsStandIn t = false by simpa using List.all_eq_true.1 hall t hm)
/-- The card. -/
theorem card : Rows.TextsJoinsUptoCardSaid :=
  Claim7.holds_tied_plain_at .later [] _ _ _ _ holds (fun _ h => by cases h) (by kernel_rfl) (fun _ h => by cases h) textsJoinsUpto_row_tie rfl ⟨rfl, rfl⟩ (by kernel_rfl) rfl plain (by kernel_rfl)
end Go.Proofs.YtdcfnfapdceenaaGreatDoor.textsJoins
namespace Go.Proofs.YtdcfnfapdceenaaGreatDoor
theorem textsJoins_card : Rows.TextsJoinsUptoCardSaid := textsJoins.card
end Go.Proofs.YtdcfnfapdceenaaGreatDoor
