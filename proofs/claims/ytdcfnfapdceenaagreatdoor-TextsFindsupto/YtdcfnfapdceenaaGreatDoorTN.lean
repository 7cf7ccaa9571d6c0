/- The library's strings.Join, Repeat, Index, Count and ReplaceAll; the contracts of texts.joined, repeated, firstPlace and replaced. New memory alone is made. The conditions: texts that are not too great; of the searches that a variable of the library holds a number. -/
import Derived.Test.YtdcfnfapdceenaaGreatDoorTD
import Derived.Test.YtdcfnfapdceenaaGreatDoorShelfX
import Derived.Lib.CountLaws
namespace Go.Proofs.YtdcfnfapdceenaaGreatDoor
open Go.Shelf Go.RowKit
set_option linter.all false
theorem tExtra156 : Builder.Extra Tryz.prog Tryz.lays156_ren where
  sizeBuilder := by kernel_rfl
  liesBuilder := by kernel_rfl
  t5 := Tryz.underlying5
  a5 := Tryz.isAgg5
  z5 := Tryz.sizeOf5
  v5 := Tryz.zeroValue5
  infoByte := by kernel_rfl
  cellsByte := by kernel_rfl
  sizeByte := by kernel_rfl
  neB5 := by decide
theorem tExtra105 : Builder.Extra Tryz.prog Tryz.lays105_ren where
  sizeBuilder := by kernel_rfl
  liesBuilder := by kernel_rfl
  t5 := Tryz.underlying5
  a5 := Tryz.isAgg5
  z5 := Tryz.sizeOf5
  v5 := Tryz.zeroValue5
  infoByte := by kernel_rfl
  cellsByte := by kernel_rfl
  sizeByte := by kernel_rfl
  neB5 := by decide
theorem tExtra155 : Builder.Extra Tryz.prog Tryz.lays155_ren where
  sizeBuilder := by kernel_rfl
  liesBuilder := by kernel_rfl
  t5 := Tryz.underlying5
  a5 := Tryz.isAgg5
  z5 := Tryz.sizeOf5
  v5 := Tryz.zeroValue5
  infoByte := by kernel_rfl
  cellsByte := by kernel_rfl
  sizeByte := by kernel_rfl
  neB5 := by decide
/-- The one variable of package bytealg that the library's searches look at. -/
def Mx (w : World) : Prop := ∃ m : Int, w.cell? ⟨0, 0, none⟩ = some (.int .i64 m)
theorem Mx.up {w w' : World} (h : Mx w) (hb : Below w.heap.size w w') : Mx w' := by
  obtain ⟨m, hm⟩ := h
  exact ⟨m, (hb.cell (World.block_lt_of_cell? w _ hm)).trans hm⟩
/-- All texts, one behind the other. -/
def catB (l : List ByteArray) : ByteArray := ⟨(l.map (·.data.toList)).flatten.toArray⟩
theorem join_nil_sep : ∀ l : List (List UInt8), Lib.join l [] = l.flatten
  | [] => rfl
  | x :: r => by
    rw [Lib.join_cons]
    have : Lib.joinTail [] r = r.flatten := by unfold Lib.joinTail; simp
    rw [this]; rfl
theorem join_any (bk c n : Nat) (xs : List ByteArray) (w : World) (hc : ∀ (j : Nat) x, xs[j]? = some x → w.cell? ⟨bk, j, none⟩ = some (.string x)) (hb : bk < w.heap.size) (hn : xs.length = n) (hn2 : n ≤ 16) (hcap : n ≤ c) (hl : (catB xs).size ≤ 140737488355328) :
    Calls Tryz.prog 101 #[.slice (some ⟨bk, 0, none⟩) n c, .string ⟨#[]⟩] w fun e w' => e = .returned (.string (catB xs)) ∧ Below w.heap.size w w' := by
  subst hn
  have e : Lib.join (xs.map (·.data.toList)) (⟨#[]⟩ : ByteArray).data.toList = (xs.map (·.data.toList)).flatten := join_nil_sep _
  have h := Any.strings_Join Tryz.lays156 tExtra156 bk 0 c xs ⟨#[]⟩ w (fun j x hj => by rw [Nat.zero_add]; exact hc j x hj) hb (by omega) hcap (by rw [e]; have q : (catB xs).size = (xs.map (·.data.toList)).flatten.length := (by show ((xs.map (·.data.toList)).flatten.toArray).size = _; simp); omega)
  rw [e] at h
  exact h
def repB (s : ByteArray) (c : Nat) : ByteArray := ⟨(Lib.repeatL s.data.toList c).toArray⟩
theorem nonempty {s : ByteArray} (hs : 0 < s.size) : (s.toList == []) = false := by
  simp only [beq_eq_false_iff_ne, ne_eq]
  intro e
  have e2 : s.data.toList = [] := by rw [← ByteArray.toList_eq]; exact e
  have e3 : s.size = s.data.toList.length := (by show s.data.size = _; simp)
  rw [e2] at e3
  have e4 : s.size = 0 := e3
  omega
theorem repeat_any (s : ByteArray) (c : Nat) (w : World) (hc : c ≤ 9223372036854775807) (hl : s.size * c ≤ 140737488355328) : Calls Tryz.prog 97 #[.string s, .int .i64 (c : Int)] w fun e w' => e = .returned (.string (repB s c)) ∧ Below w.heap.size w w' :=
  Any.strings_Repeat Tryz.lays105 tExtra105 s c w hc hl
set_option maxRecDepth 100000 in
theorem joined_any (g tc nt : Nat) (np : Option Addr) (nn nc : Nat) (x : Int) (w : World) (hg : g < w.heap.size) (xs : List ByteArray) (hc : ∀ (j : Nat) s, xs[j]? = some s → w.cell? ⟨g, j, none⟩ = some (.string s)) (hn : xs.length = nt) (hn2 : nt ≤ 16) (hcap : nt ≤ tc) (hl : (catB xs).size ≤ 140737488355328) (hx : x ≤ 1024) : Calls Tryz.prog 71 #[.agg #[.slice (some ⟨g, 0, none⟩) nt tc, .slice np nn nc, .int .i64 x]] w fun e w' => e = .returned (.agg #[.int .i64 (toT (catB xs) x), .int .i64 (0), .string (toS (catB xs) x), .bool false, .int .i64 (toC (catB xs) x)]) ∧ Below w.heap.size w w' := by
  have HJ : Hid (∀ W, Below w.heap.size w W → Calls Tryz.prog 101 #[.slice (some ⟨g, 0, none⟩) nt tc, .string ⟨#[]⟩] W fun e w' => e = .returned (.string (catB xs)) ∧ Below W.heap.size W w') := fun W hb => join_any g tc nt xs W (fun j s hj => (hb.cell (p := ⟨g, j, none⟩) hg).trans (hc j s hj)) (Nat.lt_of_lt_of_le hg hb.size) hn hn2 hcap hl
  clear hc hn
  generalize catB xs = r at *
  have mixed : Tryz.prog.follows .mixedOrders = true := by kernel_rfl
  have hne : ¬ g = w.heap.size := by omega
  have hne1 : ¬ g = w.heap.size + 1 := by omega
  go_enter Tryz.func71, Tryz.ntmps71
  go_wp2
  go_region_held3 (fun w' => w'.cell? ⟨w.heap.size, 0, none⟩ = some (.slice (some ⟨g, 0, none⟩) nt tc) ∧ w'.cell? ⟨w.heap.size, 1, none⟩ = some (.slice np nn nc) ∧ w'.cell? ⟨w.heap.size, 2, none⟩ = some (.int .i64 x)) ((repeat' apply And.intro) <;> (first | (go_keep; done) | (go_simp; done))) ((first | (go_at_call 101; refine (HJ.out _ (by with_reducible (repeat' first | assumption | exact Below.refl _ _ | refine Below.drew ?_ | refine bdrewN ?_ _ | refine Below.setCell ?_ (by first | exact Nat.le_refl _ | (simp; done) | (simp; omega) | omega) _ | refine Below.alloc ?_ (by first | exact Nat.le_refl _ | (simp; done) | (simp; omega) | omega) _))).mono ?_; rintro e wa ⟨rfl, hbwa⟩; have hBwa : Below w.heap.size w wa := bup (by with_reducible (repeat' first | assumption | exact Below.refl _ _ | refine Below.drew ?_ | refine bdrewN ?_ _ | refine Below.setCell ?_ (by first | exact Nat.le_refl _ | (simp; done) | (simp; omega) | omega) _ | refine Below.alloc ?_ (by first | exact Nat.le_refl _ | (simp; done) | (simp; omega) | omega) _)) hbwa; have zwa := hBwa.size; have o0wa : Own wa (w.heap.size) #[.slice (some ⟨g, 0, none⟩) nt tc, .slice np nn nc, .int .i64 x] := Own.keep (by with_reducible (repeat' first | assumption | refine Own.drew ?_ | refine Own.drewN ?_ _ | (refine Own.at ?_; first | rfl | (simp; done)) | refine Own.past ?_ _)) hbwa; have c0 := o0wa.cell; have f0 := o0wa.fro; have l0 := o0wa.lt; have o1wa : Own wa (w.heap.size + 1) #[.int .i64 0, .int .i64 0, .string ⟨#[]⟩, .bool false, .int .i64 0] := Own.keep (by with_reducible (repeat' first | assumption | refine Own.drew ?_ | refine Own.drewN ?_ _ | (refine Own.at ?_; first | rfl | (simp; done)) | refine Own.past ?_ _)) hbwa; have c1 := o1wa.cell; have f1 := o1wa.fro; have l1 := o1wa.lt) | (go_at_call 93; refine (ans_any _ _ _ _ _ _ _ _ _ hx).mono ?_; rintro e wc ⟨rfl, hbwc⟩; have hBwc : Below w.heap.size w wc := bup (by with_reducible (repeat' first | assumption | exact Below.refl _ _ | refine Below.drew ?_ | refine bdrewN ?_ _ | refine Below.setCell ?_ (by first | exact Nat.le_refl _ | (simp; done) | (simp; omega) | omega) _ | refine Below.alloc ?_ (by first | exact Nat.le_refl _ | (simp; done) | (simp; omega) | omega) _)) hbwc; have zwc := hBwc.size; have o0wc : Own wc (w.heap.size) #[.slice (some ⟨g, 0, none⟩) nt tc, .slice np nn nc, .int .i64 x] := Own.keep (by with_reducible (repeat' first | assumption | refine Own.drew ?_ | refine Own.drewN ?_ _ | (refine Own.at ?_; first | rfl | (simp; done)) | refine Own.past ?_ _)) hbwc; have c0 := o0wc.cell; have f0 := o0wc.fro; have l0 := o0wc.lt; have o1wc : Own wc (w.heap.size + 1) #[.int .i64 0, .int .i64 0, .string ⟨#[]⟩, .bool false, .int .i64 0] := Own.keep (by with_reducible (repeat' first | assumption | refine Own.drew ?_ | refine Own.drewN ?_ _ | (refine Own.at ?_; first | rfl | (simp; done)) | refine Own.past ?_ _)) hbwc; have c1 := o1wc.cell; have f1 := o1wc.fro; have l1 := o1wc.lt)))
  go_wp2
  exact bodyPost_ret (v := (.agg #[.int .i64 (toT (r) x), .int .i64 (0), .string (toS (r) x), .bool false, .int .i64 (toC (r) x)])) (by simp [results, Tryz.results71, go_sem, c1, f1, l1]) rfl ⟨rfl, by with_reducible (repeat' first | assumption | exact Below.refl _ _ | refine Below.drew ?_ | refine bdrewN ?_ _ | refine Below.setCell ?_ (by first | exact Nat.le_refl _ | (simp; done) | (simp; omega) | omega) _ | refine Below.alloc ?_ (by first | exact Nat.le_refl _ | (simp; done) | (simp; omega) | omega) _)⟩
theorem rept_no (g tc h nc : Nat) (x n : Int) (s : ByteArray) (w : World) (hg : g < w.heap.size) (hh : h < w.heap.size) (x0 : w.cell? ⟨g, 0, none⟩ = some (.string s)) (y0 : w.cell? ⟨h, 0, none⟩ = some (.int .i64 n)) (hn : n < 0) : Calls Tryz.prog 68 #[.agg #[.slice (some ⟨g, 0, none⟩) 1 tc, .slice (some ⟨h, 0, none⟩) 1 nc, .int .i64 x]] w fun e w' => e = .returned (.agg #[.int .i64 (4), .int .i64 (0), .string (⟨#[]⟩), .bool false, .int .i64 (8)]) ∧ Below w.heap.size w w' := by
  have mixed : Tryz.prog.follows .mixedOrders = true := by kernel_rfl
  have hne : ¬ g = w.heap.size := by omega
  have hne1 : ¬ g = w.heap.size + 1 := by omega
  have hnh : ¬ h = w.heap.size := by omega
  have hnh1 : ¬ h = w.heap.size + 1 := by omega
  go_enter Tryz.func68, Tryz.ntmps68
  go_wp2
  go_quiet (fail)
  go_wp2_with (go_at_call 23; refine (err_ok _ _ (by decide) (by decide)).mono ?_; rintro e wb ⟨rfl, hbwb⟩; have hBwb : Below w.heap.size w wb := bup (by with_reducible (repeat' first | assumption | exact Below.refl _ _ | refine Below.drew ?_ | refine bdrewN ?_ _ | refine Below.setCell ?_ (by first | exact Nat.le_refl _ | (simp; done) | (simp; omega) | omega) _ | refine Below.alloc ?_ (by first | exact Nat.le_refl _ | (simp; done) | (simp; omega) | omega) _)) hbwb; have zwb := hBwb.size; have o0wb : Own wb (w.heap.size) #[.slice (some ⟨g, 0, none⟩) 1 tc, .slice (some ⟨h, 0, none⟩) 1 nc, .int .i64 x] := Own.keep (by with_reducible (repeat' first | assumption | refine Own.drew ?_ | refine Own.drewN ?_ _ | (refine Own.at ?_; first | rfl | (simp; done)) | refine Own.past ?_ _)) hbwb; have c0 := o0wb.cell; have f0 := o0wb.fro; have l0 := o0wb.lt; have o1wb : Own wb (w.heap.size + 1) #[.int .i64 0, .int .i64 0, .string ⟨#[]⟩, .bool false, .int .i64 0] := Own.keep (by with_reducible (repeat' first | assumption | refine Own.drew ?_ | refine Own.drewN ?_ _ | (refine Own.at ?_; first | rfl | (simp; done)) | refine Own.past ?_ _)) hbwb; have c1 := o1wb.cell; have f1 := o1wb.fro; have l1 := o1wb.lt)
  exact bodyPost_ret (v := (.agg #[.int .i64 (4), .int .i64 (0), .string (⟨#[]⟩), .bool false, .int .i64 (8)])) (by simp [results, Tryz.results68, go_sem, c1, f1, l1]) rfl ⟨rfl, by with_reducible (repeat' first | assumption | exact Below.refl _ _ | refine Below.drew ?_ | refine bdrewN ?_ _ | refine Below.setCell ?_ (by first | exact Nat.le_refl _ | (simp; done) | (simp; omega) | omega) _ | refine Below.alloc ?_ (by first | exact Nat.le_refl _ | (simp; done) | (simp; omega) | omega) _)⟩
theorem rept_e (g tc h nc : Nat) (x n : Int) (s : ByteArray) (w : World) (hg : g < w.heap.size) (hh : h < w.heap.size) (x0 : w.cell? ⟨g, 0, none⟩ = some (.string s)) (y0 : w.cell? ⟨h, 0, none⟩ = some (.int .i64 n)) (hn : ¬ n < 0) (hs : s = ⟨#[]⟩) (hx : x ≤ 1024) : Calls Tryz.prog 68 #[.agg #[.slice (some ⟨g, 0, none⟩) 1 tc, .slice (some ⟨h, 0, none⟩) 1 nc, .int .i64 x]] w fun e w' => e = .returned (.agg #[.int .i64 (toT (⟨#[]⟩) x), .int .i64 (0), .string (toS (⟨#[]⟩) x), .bool false, .int .i64 (toC (⟨#[]⟩) x)]) ∧ Below w.heap.size w w' := by
  subst hs
  have mixed : Tryz.prog.follows .mixedOrders = true := by kernel_rfl
  have hne : ¬ g = w.heap.size := by omega
  have hne1 : ¬ g = w.heap.size + 1 := by omega
  have hnh : ¬ h = w.heap.size := by omega
  have hnh1 : ¬ h = w.heap.size + 1 := by omega
  go_enter Tryz.func68, Tryz.ntmps68
  go_wp2
  go_quiet (fail)
  go_wp2_with (go_at_call 93; refine (ans_any _ _ _ _ _ _ _ _ _ hx).mono ?_; rintro e wc ⟨rfl, hbwc⟩; have hBwc : Below w.heap.size w wc := bup (by with_reducible (repeat' first | assumption | exact Below.refl _ _ | refine Below.drew ?_ | refine bdrewN ?_ _ | refine Below.setCell ?_ (by first | exact Nat.le_refl _ | (simp; done) | (simp; omega) | omega) _ | refine Below.alloc ?_ (by first | exact Nat.le_refl _ | (simp; done) | (simp; omega) | omega) _)) hbwc; have zwc := hBwc.size; have o0wc : Own wc (w.heap.size) #[.slice (some ⟨g, 0, none⟩) 1 tc, .slice (some ⟨h, 0, none⟩) 1 nc, .int .i64 x] := Own.keep (by with_reducible (repeat' first | assumption | refine Own.drew ?_ | refine Own.drewN ?_ _ | (refine Own.at ?_; first | rfl | (simp; done)) | refine Own.past ?_ _)) hbwc; have c0 := o0wc.cell; have f0 := o0wc.fro; have l0 := o0wc.lt; have o1wc : Own wc (w.heap.size + 1) #[.int .i64 0, .int .i64 0, .string ⟨#[]⟩, .bool false, .int .i64 0] := Own.keep (by with_reducible (repeat' first | assumption | refine Own.drew ?_ | refine Own.drewN ?_ _ | (refine Own.at ?_; first | rfl | (simp; done)) | refine Own.past ?_ _)) hbwc; have c1 := o1wc.cell; have f1 := o1wc.fro; have l1 := o1wc.lt)
  exact bodyPost_ret (v := (.agg #[.int .i64 (toT (⟨#[]⟩) x), .int .i64 (0), .string (toS (⟨#[]⟩) x), .bool false, .int .i64 (toC (⟨#[]⟩) x)])) (by simp [results, Tryz.results68, go_sem, c1, f1, l1]) rfl ⟨rfl, by with_reducible (repeat' first | assumption | exact Below.refl _ _ | refine Below.drew ?_ | refine bdrewN ?_ _ | refine Below.setCell ?_ (by first | exact Nat.le_refl _ | (simp; done) | (simp; omega) | omega) _ | refine Below.alloc ?_ (by first | exact Nat.le_refl _ | (simp; done) | (simp; omega) | omega) _)⟩
theorem rept_long (g tc h nc : Nat) (x n : Int) (s : ByteArray) (w : World) (hg : g < w.heap.size) (hh : h < w.heap.size) (x0 : w.cell? ⟨g, 0, none⟩ = some (.string s)) (y0 : w.cell? ⟨h, 0, none⟩ = some (.int .i64 n)) (hn : ¬ n < 0) (hs : 0 < s.size) (q : Int) (hq : x.tdiv (s.size : Int) = q) (hq2 : q < n) (hx0 : 0 ≤ x) (hx : x ≤ 1024) : Calls Tryz.prog 68 #[.agg #[.slice (some ⟨g, 0, none⟩) 1 tc, .slice (some ⟨h, 0, none⟩) 1 nc, .int .i64 x]] w fun e w' => e = .returned (.agg #[.int .i64 (4), .int .i64 (0), .string (⟨#[]⟩), .bool false, .int .i64 (7)]) ∧ Below w.heap.size w w' := by
  have hse := nonempty hs
  have hz : ((s.size : Int) == 0) = false := beq_eq_false_iff_ne.2 (by omega)
  have hz2 : ¬ (s.size : Int) = 0 := by omega
  have hqb : q ≤ x := by rw [← hq]; exact Int.tdiv_le_self _ hx0
  have hq0 : 0 ≤ q := by rw [← hq]; exact Int.tdiv_nonneg hx0 (by omega)
  have hw : wrap64 q = q := by unfold wrap64; omega
  have hw2 : IntKind.i64.wrap q = q := by rw [IntKind.wrap_i64]; omega
  have mixed : Tryz.prog.follows .mixedOrders = true := by kernel_rfl
  have hne : ¬ g = w.heap.size := by omega
  have hne1 : ¬ g = w.heap.size + 1 := by omega
  have hnh : ¬ h = w.heap.size := by omega
  have hnh1 : ¬ h = w.heap.size + 1 := by omega
  go_enter Tryz.func68, Tryz.ntmps68
  go_wp2
  go_quiet (fail)
  go_wp2_with (go_at_call 23; refine (err_ok _ _ (by decide) (by decide)).mono ?_; rintro e wb ⟨rfl, hbwb⟩; have hBwb : Below w.heap.size w wb := bup (by with_reducible (repeat' first | assumption | exact Below.refl _ _ | refine Below.drew ?_ | refine bdrewN ?_ _ | refine Below.setCell ?_ (by first | exact Nat.le_refl _ | (simp; done) | (simp; omega) | omega) _ | refine Below.alloc ?_ (by first | exact Nat.le_refl _ | (simp; done) | (simp; omega) | omega) _)) hbwb; have zwb := hBwb.size; have o0wb : Own wb (w.heap.size) #[.slice (some ⟨g, 0, none⟩) 1 tc, .slice (some ⟨h, 0, none⟩) 1 nc, .int .i64 x] := Own.keep (by with_reducible (repeat' first | assumption | refine Own.drew ?_ | refine Own.drewN ?_ _ | (refine Own.at ?_; first | rfl | (simp; done)) | refine Own.past ?_ _)) hbwb; have c0 := o0wb.cell; have f0 := o0wb.fro; have l0 := o0wb.lt; have o1wb : Own wb (w.heap.size + 1) #[.int .i64 0, .int .i64 0, .string ⟨#[]⟩, .bool false, .int .i64 0] := Own.keep (by with_reducible (repeat' first | assumption | refine Own.drew ?_ | refine Own.drewN ?_ _ | (refine Own.at ?_; first | rfl | (simp; done)) | refine Own.past ?_ _)) hbwb; have c1 := o1wb.cell; have f1 := o1wb.fro; have l1 := o1wb.lt)
  exact bodyPost_ret (v := (.agg #[.int .i64 (4), .int .i64 (0), .string (⟨#[]⟩), .bool false, .int .i64 (7)])) (by simp [results, Tryz.results68, go_sem, c1, f1, l1]) rfl ⟨rfl, by with_reducible (repeat' first | assumption | exact Below.refl _ _ | refine Below.drew ?_ | refine bdrewN ?_ _ | refine Below.setCell ?_ (by first | exact Nat.le_refl _ | (simp; done) | (simp; omega) | omega) _ | refine Below.alloc ?_ (by first | exact Nat.le_refl _ | (simp; done) | (simp; omega) | omega) _)⟩
set_option maxRecDepth 100000 in
theorem rept_aux (g tc h nc : Nat) (x : Int) (c : Nat) (s : ByteArray) (w : World) (hg : g < w.heap.size) (hh : h < w.heap.size) (x0 : w.cell? ⟨g, 0, none⟩ = some (.string s)) (y0 : w.cell? ⟨h, 0, none⟩ = some (.int .i64 (c : Int))) (hse : (s.toList == []) = false) (hz : ((s.size : Int) == 0) = false) (hz2 : ¬ (s.size : Int) = 0) (q : Int) (hq : x.tdiv (s.size : Int) = q) (hw : wrap64 q = q) (hw2 : IntKind.i64.wrap q = q) (hw3 : wrap64 (c : Int) = (c : Int)) (hn : ¬ (c : Int) < 0) (hq2 : ¬ q < (c : Int)) (hx : x ≤ 1024) (r : ByteArray) (HRp : Hid (∀ W : World, Calls Tryz.prog 97 #[.string s, .int .i64 (c : Int)] W fun e w' => e = .returned (.string r) ∧ Below W.heap.size W w')) : Calls Tryz.prog 68 #[.agg #[.slice (some ⟨g, 0, none⟩) 1 tc, .slice (some ⟨h, 0, none⟩) 1 nc, .int .i64 x]] w fun e w' => e = .returned (.agg #[.int .i64 (toT (r) x), .int .i64 (0), .string (toS (r) x), .bool false, .int .i64 (toC (r) x)]) ∧ Below w.heap.size w w' := by
  have mixed : Tryz.prog.follows .mixedOrders = true := by kernel_rfl
  have hne : ¬ g = w.heap.size := by omega
  have hne1 : ¬ g = w.heap.size + 1 := by omega
  have hnh : ¬ h = w.heap.size := by omega
  have hnh1 : ¬ h = w.heap.size + 1 := by omega
  go_enter Tryz.func68, Tryz.ntmps68
  go_wp2
  go_quiet (fail)
  go_wp2
  go_region_held3 (fun w' => w'.cell? ⟨w.heap.size, 0, none⟩ = some (.slice (some ⟨g, 0, none⟩) 1 tc) ∧ w'.cell? ⟨w.heap.size, 1, none⟩ = some (.slice (some ⟨h, 0, none⟩) 1 nc) ∧ w'.cell? ⟨w.heap.size, 2, none⟩ = some (.int .i64 x)) ((repeat' apply And.intro) <;> (first | (go_keep; done) | (go_simp; done))) ((first | (go_at_call 97; refine (HRp.out _).mono ?_; rintro e wa ⟨rfl, hbwa⟩; have hBwa : Below w.heap.size w wa := bup (by with_reducible (repeat' first | assumption | exact Below.refl _ _ | refine Below.drew ?_ | refine bdrewN ?_ _ | refine Below.setCell ?_ (by first | exact Nat.le_refl _ | (simp; done) | (simp; omega) | omega) _ | refine Below.alloc ?_ (by first | exact Nat.le_refl _ | (simp; done) | (simp; omega) | omega) _)) hbwa; have zwa := hBwa.size; have o0wa : Own wa (w.heap.size) #[.slice (some ⟨g, 0, none⟩) 1 tc, .slice (some ⟨h, 0, none⟩) 1 nc, .int .i64 x] := Own.keep (by with_reducible (repeat' first | assumption | refine Own.drew ?_ | refine Own.drewN ?_ _ | (refine Own.at ?_; first | rfl | (simp; done)) | refine Own.past ?_ _)) hbwa; have c0 := o0wa.cell; have f0 := o0wa.fro; have l0 := o0wa.lt; have o1wa : Own wa (w.heap.size + 1) #[.int .i64 0, .int .i64 0, .string ⟨#[]⟩, .bool false, .int .i64 0] := Own.keep (by with_reducible (repeat' first | assumption | refine Own.drew ?_ | refine Own.drewN ?_ _ | (refine Own.at ?_; first | rfl | (simp; done)) | refine Own.past ?_ _)) hbwa; have c1 := o1wa.cell; have f1 := o1wa.fro; have l1 := o1wa.lt) | (go_at_call 93; refine (ans_any _ _ _ _ _ _ _ _ _ hx).mono ?_; rintro e wc ⟨rfl, hbwc⟩; have hBwc : Below w.heap.size w wc := bup (by with_reducible (repeat' first | assumption | exact Below.refl _ _ | refine Below.drew ?_ | refine bdrewN ?_ _ | refine Below.setCell ?_ (by first | exact Nat.le_refl _ | (simp; done) | (simp; omega) | omega) _ | refine Below.alloc ?_ (by first | exact Nat.le_refl _ | (simp; done) | (simp; omega) | omega) _)) hbwc; have zwc := hBwc.size; have o0wc : Own wc (w.heap.size) #[.slice (some ⟨g, 0, none⟩) 1 tc, .slice (some ⟨h, 0, none⟩) 1 nc, .int .i64 x] := Own.keep (by with_reducible (repeat' first | assumption | refine Own.drew ?_ | refine Own.drewN ?_ _ | (refine Own.at ?_; first | rfl | (simp; done)) | refine Own.past ?_ _)) hbwc; have c0 := o0wc.cell; have f0 := o0wc.fro; have l0 := o0wc.lt; have o1wc : Own wc (w.heap.size + 1) #[.int .i64 0, .int .i64 0, .string ⟨#[]⟩, .bool false, .int .i64 0] := Own.keep (by with_reducible (repeat' first | assumption | refine Own.drew ?_ | refine Own.drewN ?_ _ | (refine Own.at ?_; first | rfl | (simp; done)) | refine Own.past ?_ _)) hbwc; have c1 := o1wc.cell; have f1 := o1wc.fro; have l1 := o1wc.lt)))
  go_wp2
  exact bodyPost_ret (v := (.agg #[.int .i64 (toT (r) x), .int .i64 (0), .string (toS (r) x), .bool false, .int .i64 (toC (r) x)])) (by simp [results, Tryz.results68, go_sem, c1, f1, l1]) rfl ⟨rfl, by with_reducible (repeat' first | assumption | exact Below.refl _ _ | refine Below.drew ?_ | refine bdrewN ?_ _ | refine Below.setCell ?_ (by first | exact Nat.le_refl _ | (simp; done) | (simp; omega) | omega) _ | refine Below.alloc ?_ (by first | exact Nat.le_refl _ | (simp; done) | (simp; omega) | omega) _)⟩
theorem rept_ok (g tc h nc : Nat) (x n : Int) (s : ByteArray) (w : World) (hg : g < w.heap.size) (hh : h < w.heap.size) (x0 : w.cell? ⟨g, 0, none⟩ = some (.string s)) (y0 : w.cell? ⟨h, 0, none⟩ = some (.int .i64 n)) (hn : ¬ n < 0) (hs : 0 < s.size) (q : Int) (hq : x.tdiv (s.size : Int) = q) (hq2 : ¬ q < n) (hx0 : 0 ≤ x) (hx : x ≤ 1024) (hfit : s.size * n.toNat ≤ 1024) : Calls Tryz.prog 68 #[.agg #[.slice (some ⟨g, 0, none⟩) 1 tc, .slice (some ⟨h, 0, none⟩) 1 nc, .int .i64 x]] w fun e w' => e = .returned (.agg #[.int .i64 (toT (repB s n.toNat) x), .int .i64 (0), .string (toS (repB s n.toNat) x), .bool false, .int .i64 (toC (repB s n.toNat) x)]) ∧ Below w.heap.size w w' := by
  have hqb : q ≤ x := by rw [← hq]; exact Int.tdiv_le_self _ hx0
  have hq0 : 0 ≤ q := by rw [← hq]; exact Int.tdiv_nonneg hx0 (by omega)
  obtain ⟨c, rfl⟩ := Int.eq_ofNat_of_zero_le (show 0 ≤ n by omega)
  rw [Int.toNat_natCast] at hfit ⊢
  have hcs : c ≤ s.size * c := Nat.le_mul_of_pos_left _ hs
  have hcc : c ≤ 1024 := Nat.le_trans hcs hfit
  exact rept_aux g tc h nc x c s w hg hh x0 y0 (nonempty hs) (beq_eq_false_iff_ne.2 (by omega)) (by omega) q hq (by unfold wrap64; omega) (by rw [IntKind.wrap_i64]; omega) (by unfold wrap64; omega) hn hq2 hx (repB s c) (fun W => repeat_any s c W (by omega) (by omega))
end Go.Proofs.YtdcfnfapdceenaaGreatDoor
