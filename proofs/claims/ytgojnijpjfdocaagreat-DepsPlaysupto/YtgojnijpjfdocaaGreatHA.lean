/- The document's may, numbers, ahead. New memory alone is made. -/
import Derived.Test.YtgojnijpjfdocaaGreatGM
namespace Go.Proofs.YtgojnijpjfdocaaGreat
open Go.RowKit Go.Shelf
set_option linter.all false
set_option maxRecDepth 100000 in
theorem rmf_no (t l b q : Int) (w : World) (m : Bool) (hm : mayR t l b q = false) (h1 : (t == b) = true ∨ (t == b) = false) (h2 : (l == q) = true ∨ (l == q) = false) : Calls Tryz.prog 30 #[.agg #[.bool m, .int .i64 t, .int .i64 l, .int .i64 b, .int .i64 q]] w fun e w' => e = .returned (.bool false) ∧ Below w.heap.size w w' := by
  have HM : Hid (∀ W, Calls Tryz.prog 52 #[.agg #[.int .i64 t, .int .i64 l, .int .i64 b, .int .i64 q]] W fun e w' => e = .returned (.bool false) ∧ Below W.heap.size W w') := (show _ from fun W => by rw [← hm]; exact rmayR_any t l b q W)
  clear hm
  go_enter Tryz.func30, Tryz.ntmps30
  rcases h1 with h1 | h1 <;> rcases h2 with h2 | h2
  all_goals go_wp2_with (go_at_call 52; refine (HM.out _).mono ?_; rintro e wa ⟨rfl, hba⟩; have hBa : Below w.heap.size w wa := bup (by with_reducible (repeat' first | assumption | exact Below.refl _ _ | refine Below.drew ?_ | refine bdrewN ?_ _ | refine Below.setCell ?_ (by first | exact Nat.le_refl _ | (simp; done) | (simp; omega) | omega) _ | refine Below.alloc ?_ (by first | exact Nat.le_refl _ | (simp; done) | (simp; omega) | omega) _)) hba; have oXa : Own wa w.heap.size #[.bool m, .int .i64 t, .int .i64 l, .int .i64 b, .int .i64 q] := Own.keep (by with_reducible (repeat' first | assumption | refine Own.drew ?_ | refine Own.drewN ?_ _ | (refine Own.at ?_; first | rfl | (simp; done)) | refine Own.past ?_ _)) hba; have cXa := oXa.cell; have lXa := oXa.lt; clear hba)
  all_goals go_ret
  all_goals exact ⟨rfl, by with_reducible (repeat' first | assumption | exact Below.refl _ _ | refine Below.drew ?_ | refine bdrewN ?_ _ | refine Below.setCell ?_ (by first | exact Nat.le_refl _ | (simp; done) | (simp; omega) | omega) _ | refine Below.alloc ?_ (by first | exact Nat.le_refl _ | (simp; done) | (simp; omega) | omega) _)⟩
set_option maxRecDepth 100000 in
theorem rmf_many (t l b q : Int) (w : World) (hm : mayR t l b q = true) (h1 : (t == b) = true ∨ (t == b) = false) (h2 : (l == q) = true ∨ (l == q) = false) : Calls Tryz.prog 30 #[.agg #[.bool true, .int .i64 t, .int .i64 l, .int .i64 b, .int .i64 q]] w fun e w' => e = .returned (.bool true) ∧ Below w.heap.size w w' := by
  have HM : Hid (∀ W, Calls Tryz.prog 52 #[.agg #[.int .i64 t, .int .i64 l, .int .i64 b, .int .i64 q]] W fun e w' => e = .returned (.bool true) ∧ Below W.heap.size W w') := (show _ from fun W => by rw [← hm]; exact rmayR_any t l b q W)
  clear hm
  go_enter Tryz.func30, Tryz.ntmps30
  rcases h1 with h1 | h1 <;> rcases h2 with h2 | h2
  all_goals go_wp2_with (go_at_call 52; refine (HM.out _).mono ?_; rintro e wa ⟨rfl, hba⟩; have hBa : Below w.heap.size w wa := bup (by with_reducible (repeat' first | assumption | exact Below.refl _ _ | refine Below.drew ?_ | refine bdrewN ?_ _ | refine Below.setCell ?_ (by first | exact Nat.le_refl _ | (simp; done) | (simp; omega) | omega) _ | refine Below.alloc ?_ (by first | exact Nat.le_refl _ | (simp; done) | (simp; omega) | omega) _)) hba; have oXa : Own wa w.heap.size #[.bool true, .int .i64 t, .int .i64 l, .int .i64 b, .int .i64 q] := Own.keep (by with_reducible (repeat' first | assumption | refine Own.drew ?_ | refine Own.drewN ?_ _ | (refine Own.at ?_; first | rfl | (simp; done)) | refine Own.past ?_ _)) hba; have cXa := oXa.cell; have lXa := oXa.lt; clear hba)
  all_goals go_ret
  all_goals exact ⟨rfl, by with_reducible (repeat' first | assumption | exact Below.refl _ _ | refine Below.drew ?_ | refine bdrewN ?_ _ | refine Below.setCell ?_ (by first | exact Nat.le_refl _ | (simp; done) | (simp; omega) | omega) _ | refine Below.alloc ?_ (by first | exact Nat.le_refl _ | (simp; done) | (simp; omega) | omega) _)⟩
set_option maxRecDepth 100000 in
theorem rmf_row (t l b q : Int) (w : World) (hm : mayR t l b q = true) (h1 : ¬ t = b) : Calls Tryz.prog 30 #[.agg #[.bool false, .int .i64 t, .int .i64 l, .int .i64 b, .int .i64 q]] w fun e w' => e = .returned (.bool false) ∧ Below w.heap.size w w' := by
  have HM : Hid (∀ W, Calls Tryz.prog 52 #[.agg #[.int .i64 t, .int .i64 l, .int .i64 b, .int .i64 q]] W fun e w' => e = .returned (.bool true) ∧ Below W.heap.size W w') := (show _ from fun W => by rw [← hm]; exact rmayR_any t l b q W)
  have h1' : (t == b) = false := by simpa using h1
  clear hm
  go_enter Tryz.func30, Tryz.ntmps30
  go_wp2_with (go_at_call 52; refine (HM.out _).mono ?_; rintro e wa ⟨rfl, hba⟩; have hBa : Below w.heap.size w wa := bup (by with_reducible (repeat' first | assumption | exact Below.refl _ _ | refine Below.drew ?_ | refine bdrewN ?_ _ | refine Below.setCell ?_ (by first | exact Nat.le_refl _ | (simp; done) | (simp; omega) | omega) _ | refine Below.alloc ?_ (by first | exact Nat.le_refl _ | (simp; done) | (simp; omega) | omega) _)) hba; have oXa : Own wa w.heap.size #[.bool false, .int .i64 t, .int .i64 l, .int .i64 b, .int .i64 q] := Own.keep (by with_reducible (repeat' first | assumption | refine Own.drew ?_ | refine Own.drewN ?_ _ | (refine Own.at ?_; first | rfl | (simp; done)) | refine Own.past ?_ _)) hba; have cXa := oXa.cell; have lXa := oXa.lt; clear hba)
  go_ret
  exact ⟨rfl, by with_reducible (repeat' first | assumption | exact Below.refl _ _ | refine Below.drew ?_ | refine bdrewN ?_ _ | refine Below.setCell ?_ (by first | exact Nat.le_refl _ | (simp; done) | (simp; omega) | omega) _ | refine Below.alloc ?_ (by first | exact Nat.le_refl _ | (simp; done) | (simp; omega) | omega) _)⟩
set_option maxRecDepth 100000 in
theorem rmf_col (t l b q : Int) (w : World) (hm : mayR t l b q = true) (h1 : t = b) (h2 : ¬ l = q) : Calls Tryz.prog 30 #[.agg #[.bool false, .int .i64 t, .int .i64 l, .int .i64 b, .int .i64 q]] w fun e w' => e = .returned (.bool false) ∧ Below w.heap.size w w' := by
  have HM : Hid (∀ W, Calls Tryz.prog 52 #[.agg #[.int .i64 t, .int .i64 l, .int .i64 b, .int .i64 q]] W fun e w' => e = .returned (.bool true) ∧ Below W.heap.size W w') := (show _ from fun W => by rw [← hm]; exact rmayR_any t l b q W)
  have h1' : (t == b) = true := by simpa using h1
  have h2' : (l == q) = false := by simpa using h2
  clear h1
  clear hm
  go_enter Tryz.func30, Tryz.ntmps30
  go_wp2_with (go_at_call 52; refine (HM.out _).mono ?_; rintro e wa ⟨rfl, hba⟩; have hBa : Below w.heap.size w wa := bup (by with_reducible (repeat' first | assumption | exact Below.refl _ _ | refine Below.drew ?_ | refine bdrewN ?_ _ | refine Below.setCell ?_ (by first | exact Nat.le_refl _ | (simp; done) | (simp; omega) | omega) _ | refine Below.alloc ?_ (by first | exact Nat.le_refl _ | (simp; done) | (simp; omega) | omega) _)) hba; have oXa : Own wa w.heap.size #[.bool false, .int .i64 t, .int .i64 l, .int .i64 b, .int .i64 q] := Own.keep (by with_reducible (repeat' first | assumption | refine Own.drew ?_ | refine Own.drewN ?_ _ | (refine Own.at ?_; first | rfl | (simp; done)) | refine Own.past ?_ _)) hba; have cXa := oXa.cell; have lXa := oXa.lt; clear hba)
  go_ret
  exact ⟨rfl, by with_reducible (repeat' first | assumption | exact Below.refl _ _ | refine Below.drew ?_ | refine bdrewN ?_ _ | refine Below.setCell ?_ (by first | exact Nat.le_refl _ | (simp; done) | (simp; omega) | omega) _ | refine Below.alloc ?_ (by first | exact Nat.le_refl _ | (simp; done) | (simp; omega) | omega) _)⟩
set_option maxRecDepth 100000 in
theorem rmf_one (t l b q : Int) (w : World) (hm : mayR t l b q = true) (h1 : t = b) (h2 : l = q) : Calls Tryz.prog 30 #[.agg #[.bool false, .int .i64 t, .int .i64 l, .int .i64 b, .int .i64 q]] w fun e w' => e = .returned (.bool true) ∧ Below w.heap.size w w' := by
  have HM : Hid (∀ W, Calls Tryz.prog 52 #[.agg #[.int .i64 t, .int .i64 l, .int .i64 b, .int .i64 q]] W fun e w' => e = .returned (.bool true) ∧ Below W.heap.size W w') := (show _ from fun W => by rw [← hm]; exact rmayR_any t l b q W)
  have h1' : (t == b) = true := by simpa using h1
  have h2' : (l == q) = true := by simpa using h2
  clear h1 h2
  clear hm
  go_enter Tryz.func30, Tryz.ntmps30
  go_wp2_with (go_at_call 52; refine (HM.out _).mono ?_; rintro e wa ⟨rfl, hba⟩; have hBa : Below w.heap.size w wa := bup (by with_reducible (repeat' first | assumption | exact Below.refl _ _ | refine Below.drew ?_ | refine bdrewN ?_ _ | refine Below.setCell ?_ (by first | exact Nat.le_refl _ | (simp; done) | (simp; omega) | omega) _ | refine Below.alloc ?_ (by first | exact Nat.le_refl _ | (simp; done) | (simp; omega) | omega) _)) hba; have oXa : Own wa w.heap.size #[.bool false, .int .i64 t, .int .i64 l, .int .i64 b, .int .i64 q] := Own.keep (by with_reducible (repeat' first | assumption | refine Own.drew ?_ | refine Own.drewN ?_ _ | (refine Own.at ?_; first | rfl | (simp; done)) | refine Own.past ?_ _)) hba; have cXa := oXa.cell; have lXa := oXa.lt; clear hba)
  go_ret
  exact ⟨rfl, by with_reducible (repeat' first | assumption | exact Below.refl _ _ | refine Below.drew ?_ | refine bdrewN ?_ _ | refine Below.setCell ?_ (by first | exact Nat.le_refl _ | (simp; done) | (simp; omega) | omega) _ | refine Below.alloc ?_ (by first | exact Nat.le_refl _ | (simp; done) | (simp; omega) | omega) _)⟩
theorem rmayf_any (x : Rf) (w : World) : Calls Tryz.prog 30 #[.agg #[.bool x.m, .int .i64 x.t, .int .i64 x.l, .int .i64 x.b, .int .i64 x.q]] w fun e w' => e = .returned (.bool (mayF x)) ∧ Below w.heap.size w w' := by
  obtain ⟨m, t, l, b, q⟩ := x
  have e1 : (t == b) = true ∨ (t == b) = false := by cases t == b <;> simp
  have e2 : (l == q) = true ∨ (l == q) = false := by cases l == q <;> simp
  cases hm : mayR t l b q
  · have e : mayF ⟨m, t, l, b, q⟩ = false := by simp [mayF, hm]
    rw [e]; exact rmf_no t l b q w m hm e1 e2
  · cases m
    · by_cases h1 : t = b
      · by_cases h2 : l = q
        · have e : mayF ⟨false, t, l, b, q⟩ = true := by simp [mayF, hm, h1, h2] at hm ⊢; simpa [h1, h2] using hm
          rw [e]; exact rmf_one t l b q w hm h1 h2
        · have e : mayF ⟨false, t, l, b, q⟩ = false := by simp [mayF, hm, h1, h2]
          rw [e]; exact rmf_col t l b q w hm h1 h2
      · have e : mayF ⟨false, t, l, b, q⟩ = false := by simp [mayF, hm, h1]
        rw [e]; exact rmf_row t l b q w hm h1
    · have e : mayF ⟨true, t, l, b, q⟩ = true := by simp [mayF, hm]
      rw [e]; exact rmf_many t l b q w hm e1 e2
set_option maxRecDepth 100000 in
set_option maxHeartbeats 1000000 in
theorem num_any (r c t l b q : Int) (m : Bool) (w : World) : Calls Tryz.prog 53 #[.agg #[.int .i64 r, .int .i64 c, .bool m, .int .i64 t, .int .i64 l, .int .i64 b, .int .i64 q]] w fun e w' => e = .returned (.agg #[.int .i64 r, .int .i64 c, .int .i64 t, .int .i64 l, .int .i64 b, .int .i64 q, .int .i64 (mI m)]) ∧ Below w.heap.size w w' := by
  cases m
  · go_enter Tryz.func53, Tryz.ntmps53
    go_wp2
    exact bodyPost_ret (v := .agg #[.int .i64 r, .int .i64 c, .int .i64 t, .int .i64 l, .int .i64 b, .int .i64 q, .int .i64 0]) (by simp [results, Tryz.results53, go_sem]) rfl ⟨rfl, by with_reducible (repeat' first | assumption | exact Below.refl _ _ | refine Below.drew ?_ | refine bdrewN ?_ _ | refine Below.setCell ?_ (by first | exact Nat.le_refl _ | (simp; done) | (simp; omega) | omega) _ | refine Below.alloc ?_ (by first | exact Nat.le_refl _ | (simp; done) | (simp; omega) | omega) _)⟩
  · go_enter Tryz.func53, Tryz.ntmps53
    go_wp2
    exact bodyPost_ret (v := .agg #[.int .i64 r, .int .i64 c, .int .i64 t, .int .i64 l, .int .i64 b, .int .i64 q, .int .i64 1]) (by simp [results, Tryz.results53, go_sem]) rfl ⟨rfl, by with_reducible (repeat' first | assumption | exact Below.refl _ _ | refine Below.drew ?_ | refine bdrewN ?_ _ | refine Below.setCell ?_ (by first | exact Nat.le_refl _ | (simp; done) | (simp; omega) | omega) _ | refine Below.alloc ?_ (by first | exact Nat.le_refl _ | (simp; done) | (simp; omega) | omega) _)⟩
/-- The numbers by which an edge is sorted. -/
def numsE (x : Ed) : List Int := [x.r, x.c, x.f.t, x.f.l, x.f.b, x.f.q, mI x.f.m]
theorem mI_inj {a b : Bool} (h : mI a = mI b) : a = b := by cases a <;> cases b <;> simp [mI] at h ⊢
theorem lex_at (x y : Ed) (k : Nat) (a b : Int) (hk : k < 7) (hx : (numsE x)[k]? = some a) (hy : (numsE y)[k]? = some b) (hp : ∀ j, j < k → (numsE x)[j]? = (numsE y)[j]?) (hn : a ≠ b) : (cmpD x y < 0) = (a < b) := by
  have hl : (cmpD x y < 0) = (ltOf cmpD x y = true) := by unfold ltOf; rw [decide_eq_true_eq]
  rw [hl, cmpD_lt]
  have p0 : 0 < k → x.r = y.r := fun q => by simpa [numsE] using hp 0 q
  have p1 : 1 < k → x.c = y.c := fun q => by simpa [numsE] using hp 1 q
  have p2 : 2 < k → x.f.t = y.f.t := fun q => by simpa [numsE] using hp 2 q
  have p3 : 3 < k → x.f.l = y.f.l := fun q => by simpa [numsE] using hp 3 q
  have p4 : 4 < k → x.f.b = y.f.b := fun q => by simpa [numsE] using hp 4 q
  have p5 : 5 < k → x.f.q = y.f.q := fun q => by simpa [numsE] using hp 5 q
  refine propext ?_
  match k, hk with
  | 0, _ => simp [numsE] at hx hy; omega
  | 1, _ => simp [numsE] at hx hy; omega
  | 2, _ => simp [numsE] at hx hy; omega
  | 3, _ => simp [numsE] at hx hy; omega
  | 4, _ => simp [numsE] at hx hy; omega
  | 5, _ => simp [numsE] at hx hy; omega
  | 6, _ => simp [numsE] at hx hy; omega
theorem lex_end (x y : Ed) (hp : ∀ j, j < 7 → (numsE x)[j]? = (numsE y)[j]?) : x = y := by
  have p0 : x.r = y.r := by simpa [numsE] using hp 0 (by omega)
  have p1 : x.c = y.c := by simpa [numsE] using hp 1 (by omega)
  have p2 : x.f.t = y.f.t := by simpa [numsE] using hp 2 (by omega)
  have p3 : x.f.l = y.f.l := by simpa [numsE] using hp 3 (by omega)
  have p4 : x.f.b = y.f.b := by simpa [numsE] using hp 4 (by omega)
  have p5 : x.f.q = y.f.q := by simpa [numsE] using hp 5 (by omega)
  have p6 : mI x.f.m = mI y.f.m := by simpa [numsE] using hp 6 (by omega)
  obtain ⟨a, b, ⟨m, t, l, bb, q⟩⟩ := x
  obtain ⟨a', b', ⟨m', t', l', bb', q'⟩⟩ := y
  simp only at p0 p1 p2 p3 p4 p5 p6
  rw [p0, p1, p2, p3, p4, p5, mI_inj p6]
theorem nums_some (x : Ed) {k : Nat} (hk : k < 7) : ∃ a, (numsE x)[k]? = some a := ⟨_, List.getElem?_eq_getElem (show k < (numsE x).length from hk)⟩
def vNum (x : Ed) : Array Value := #[.int .i64 x.r, .int .i64 x.c, .int .i64 x.f.t, .int .i64 x.f.l, .int .i64 x.f.b, .int .i64 x.f.q, .int .i64 (mI x.f.m)]
theorem vNum_at {x : Ed} {k : Nat} {a : Int} (h : (numsE x)[k]? = some a) : (vNum x)[k]? = some (.int .i64 a) := by
  have e : vNum x = ((numsE x).map (Value.int .i64)).toArray := rfl
  rw [e, List.getElem?_toArray, List.getElem?_map, h]
  rfl
set_option maxRecDepth 100000 in
set_option maxHeartbeats 4000000 in
theorem ahead_any (x y : Ed) (w : World) : Calls Tryz.prog 31 #[.agg #[.int .i64 x.r, .int .i64 x.c, .bool x.f.m, .int .i64 x.f.t, .int .i64 x.f.l, .int .i64 x.f.b, .int .i64 x.f.q], .agg #[.int .i64 y.r, .int .i64 y.c, .bool y.f.m, .int .i64 y.f.t, .int .i64 y.f.l, .int .i64 y.f.b, .int .i64 y.f.q]] w fun e w' => e = .returned (.bool (decide (cmpD x y < 0))) ∧ Below w.heap.size w w' := by
  have mixed : Tryz.prog.follows .mixedOrders = true := by kernel_rfl
  have HX : Hid (∀ W, Calls Tryz.prog 53 #[.agg #[.int .i64 x.r, .int .i64 x.c, .bool x.f.m, .int .i64 x.f.t, .int .i64 x.f.l, .int .i64 x.f.b, .int .i64 x.f.q]] W fun e w' => e = .returned (.agg #[.int .i64 x.r, .int .i64 x.c, .int .i64 x.f.t, .int .i64 x.f.l, .int .i64 x.f.b, .int .i64 x.f.q, .int .i64 (mI x.f.m)]) ∧ Below W.heap.size W w') := (show _ from fun W => num_any _ _ _ _ _ _ _ W)
  have HY : Hid (∀ W, Calls Tryz.prog 53 #[.agg #[.int .i64 y.r, .int .i64 y.c, .bool y.f.m, .int .i64 y.f.t, .int .i64 y.f.l, .int .i64 y.f.b, .int .i64 y.f.q]] W fun e w' => e = .returned (.agg #[.int .i64 y.r, .int .i64 y.c, .int .i64 y.f.t, .int .i64 y.f.l, .int .i64 y.f.b, .int .i64 y.f.q, .int .i64 (mI y.f.m)]) ∧ Below W.heap.size W w') := (show _ from fun W => num_any _ _ _ _ _ _ _ W)
  have HXs : Hid (∀ k, k < 7 → ∃ a, (numsE x)[k]? = some a ∧ (#[.int .i64 x.r, .int .i64 x.c, .int .i64 x.f.t, .int .i64 x.f.l, .int .i64 x.f.b, .int .i64 x.f.q, .int .i64 (mI x.f.m)] : Array Value)[k]? = some (.int .i64 a)) := (show _ from fun k hk => by obtain ⟨a, h⟩ := nums_some x hk; exact ⟨a, h, vNum_at h⟩)
  have HYs : Hid (∀ k, k < 7 → ∃ a, (numsE y)[k]? = some a ∧ (#[.int .i64 y.r, .int .i64 y.c, .int .i64 y.f.t, .int .i64 y.f.l, .int .i64 y.f.b, .int .i64 y.f.q, .int .i64 (mI y.f.m)] : Array Value)[k]? = some (.int .i64 a)) := (show _ from fun k hk => by obtain ⟨a, h⟩ := nums_some y hk; exact ⟨a, h, vNum_at h⟩)
  have HL : Hid (∀ k a b, k < 7 → (numsE x)[k]? = some a → (numsE y)[k]? = some b → (∀ j, j < k → (numsE x)[j]? = (numsE y)[j]?) → a ≠ b → decide (cmpD x y < 0) = decide (a < b)) := (show _ from fun k a b h1 h2 h3 h4 h5 => by simp only [lex_at x y k a b h1 h2 h3 h4 h5])
  have HE : Hid ((∀ j, j < 7 → (numsE x)[j]? = (numsE y)[j]?) → decide (cmpD x y < 0) = false) := (show _ → _ from fun h => by
    have e := lex_end x y h
    have h0 := (cmpD_zero x y).2 e
    rw [h0]
    rfl)
  obtain ⟨nx, hnx⟩ : ∃ nx, nx = numsE x := ⟨_, rfl⟩
  obtain ⟨ny, hny⟩ : ∃ ny, ny = numsE y := ⟨_, rfl⟩
  rw [← hnx] at HXs HL HE
  rw [← hny] at HYs HL HE
  clear hnx hny
  have t1 : True := trivial
  have t2 : True := trivial
  go_enter Tryz.func31, Tryz.ntmps31
  go_wp2_with (first
    | (go_at_call 53; clear t1; refine (HX.out _).mono ?_; rintro e w1 ⟨rfl, hb⟩; have hB1 : Below w.heap.size w w1 := bup (by with_reducible (repeat' first | assumption | exact Below.refl _ _ | refine Below.drew ?_ | refine bdrewN ?_ _ | refine Below.setCell ?_ (by first | exact Nat.le_refl _ | (simp; done) | (simp; omega) | omega) _ | refine Below.alloc ?_ (by first | exact Nat.le_refl _ | (simp; done) | (simp; omega) | omega) _)) hb; have oY1 : Own w1 (w.heap.size + 1) #[.int .i64 y.r, .int .i64 y.c, .bool y.f.m, .int .i64 y.f.t, .int .i64 y.f.l, .int .i64 y.f.b, .int .i64 y.f.q] := Own.keep (by with_reducible (repeat' first | assumption | refine Own.drew ?_ | refine Own.drewN ?_ _ | (refine Own.at ?_; first | rfl | (simp; done)) | refine Own.past ?_ _)) hb; have y1 := oY1.cell; have lY1 := oY1.lt; clear hb)
    | (go_at_call 53; clear t2; refine (HY.out _).mono ?_; rintro e w2 ⟨rfl, hb⟩; have hB2 : Below w.heap.size w w2 := bup (by with_reducible (repeat' first | assumption | exact Below.refl _ _ | refine Below.drew ?_ | refine bdrewN ?_ _ | refine Below.setCell ?_ (by first | exact Nat.le_refl _ | (simp; done) | (simp; omega) | omega) _ | refine Below.alloc ?_ (by first | exact Nat.le_refl _ | (simp; done) | (simp; omega) | omega) _)) hb; have oX2 : Own w2 w1.heap.size #[.int .i64 x.r, .int .i64 x.c, .int .i64 x.f.t, .int .i64 x.f.l, .int .i64 x.f.b, .int .i64 x.f.q, .int .i64 (mI x.f.m)] := Own.keep (by with_reducible (repeat' first | assumption | refine Own.drew ?_ | refine Own.drewN ?_ _ | (refine Own.at ?_; first | rfl | (simp; done)) | refine Own.past ?_ _)) hb; clear hb))
  obtain ⟨W0, hW0⟩ : ∃ W0 : World, W0 = w2.alloc (.cells #[.int .i64 y.r, .int .i64 y.c, .int .i64 y.f.t, .int .i64 y.f.l, .int .i64 y.f.b, .int .i64 y.f.q, .int .i64 (mI y.f.m)] 82) := ⟨_, rfl⟩
  have z1 := hB1.size
  have z2 := hB2.size
  have hB0 : Below w.heap.size w W0 := (by rw [hW0]; with_reducible (repeat' first | assumption | exact Below.refl _ _ | refine Below.drew ?_ | refine bdrewN ?_ _ | refine Below.setCell ?_ (by first | exact Nat.le_refl _ | (simp; done) | (simp; omega) | omega) _ | refine Below.alloc ?_ (by first | exact Nat.le_refl _ | (simp; done) | (simp; omega) | omega) _))
  have oX0 : Own W0 w1.heap.size #[.int .i64 x.r, .int .i64 x.c, .int .i64 x.f.t, .int .i64 x.f.l, .int .i64 x.f.b, .int .i64 x.f.q, .int .i64 (mI x.f.m)] := (by rw [hW0]; with_reducible (repeat' first | assumption | refine Own.drew ?_ | refine Own.drewN ?_ _ | (refine Own.at ?_; first | rfl | (simp; done)) | refine Own.past ?_ _))
  have oY0 : Own W0 w2.heap.size #[.int .i64 y.r, .int .i64 y.c, .int .i64 y.f.t, .int .i64 y.f.l, .int .i64 y.f.b, .int .i64 y.f.q, .int .i64 (mI y.f.m)] := (by rw [hW0]; with_reducible (repeat' first | assumption | refine Own.drew ?_ | refine Own.drewN ?_ _ | (refine Own.at ?_; first | rfl | (simp; done)) | refine Own.past ?_ _))
  rw [← hW0]
  have zX := oX0.lt
  have zY := oY0.lt
  have HX0 : Hid (∀ k, k < 7 → ∃ a, nx[k]? = some a ∧ W0.cell? ⟨w1.heap.size, k, none⟩ = some (.int .i64 a)) := (show _ from fun k hk => by
    obtain ⟨a, h1, h2⟩ := HXs.out k hk
    exact ⟨a, h1, (oX0.cell k).trans h2⟩)
  have HY0 : Hid (∀ k, k < 7 → ∃ a, ny[k]? = some a ∧ W0.cell? ⟨w2.heap.size, k, none⟩ = some (.int .i64 a)) := (show _ from fun k hk => by
    obtain ⟨a, h1, h2⟩ := HYs.out k hk
    exact ⟨a, h1, (oY0.cell k).trans h2⟩)
  clear hW0 oX0 oY0 HXs HYs HX HY hB1 hB2
  go_loopw [7] (fun u7 w' => ∃ k : Nat, u7 = .int .i64 k ∧ k ≤ 7 ∧ Hid (∀ j, j < k → nx[j]? = ny[j]?) ∧ Below W0.heap.size W0 w') (fun u7 _ => 7 - (intOf u7).toNat)
  case atStart => exact ⟨0, rfl, by omega, (show Hid _ from fun j hj => absurd hj (Nat.not_lt_zero _)), by with_reducible (repeat' first | assumption | exact Below.refl _ _ | refine Below.drew ?_ | refine bdrewN ?_ _ | refine Below.setCell ?_ (by first | exact Nat.le_refl _ | (simp; done) | (simp; omega) | omega) _ | refine Below.alloc ?_ (by first | exact Nat.le_refl _ | (simp; done) | (simp; omega) | omega) _)⟩
  case round =>
    obtain ⟨k, rfl, hk, HP, hB⟩ := hrel
    have hBw : Below w.heap.size w wr := bup hB0 hB
    by_cases hlt : k < 7
    · have hlt' : (k : Int) < 7 := by omega
      obtain ⟨a, ha, hac⟩ := HX0.out k hlt
      obtain ⟨b, hb, hbc⟩ := HY0.out k hlt
      have xa : wr.cell? ⟨w1.heap.size, k, none⟩ = some (.int .i64 a) := (hB.cell (p := ⟨w1.heap.size, k, none⟩) zX).trans hac
      have xb : wr.cell? ⟨w2.heap.size, k, none⟩ = some (.int .i64 b) := (hB.cell (p := ⟨w2.heap.size, k, none⟩) zY).trans hbc
      clear hac hbc
      by_cases hab : a = b
      · subst hab
        have hne : (a != a) = false := by simp
        have HP2 : Hid (∀ j, j < k + 1 → nx[j]? = ny[j]?) := (show _ from fun j hj => by
          by_cases e : j = k
          · subst e; rw [ha, hb]
          · exact HP.out j (by omega))
        go_wp2
        go_quiet (fail)
        go_wp2
        exact ⟨⟨k + 1, by go_num, by omega, HP2, by with_reducible (repeat' first | assumption | exact Below.refl _ _ | refine Below.drew ?_ | refine bdrewN ?_ _ | refine Below.setCell ?_ (by first | exact Nat.le_refl _ | (simp; done) | (simp; omega) | omega) _ | refine Below.alloc ?_ (by first | exact Nat.le_refl _ | (simp; done) | (simp; omega) | omega) _)⟩, by simp [intOf] <;> omega⟩
      · have hne : (a != b) = true := by simpa using hab
        have HF : Hid (decide (cmpD x y < 0) = decide (a < b)) := HL.out k a b hlt ha hb HP.out hab
        clear ha hb HL HE
        go_wp2
        go_quiet (fail)
        go_wp2
        go_quiet (fail)
        go_wp2
        go_ret
        exact ⟨by rw [HF.out]; rfl, by with_reducible (repeat' first | assumption | exact Below.refl _ _ | refine Below.drew ?_ | refine bdrewN ?_ _ | refine Below.setCell ?_ (by first | exact Nat.le_refl _ | (simp; done) | (simp; omega) | omega) _ | refine Below.alloc ?_ (by first | exact Nat.le_refl _ | (simp; done) | (simp; omega) | omega) _)⟩
    · have hk7 : k = 7 := by omega
      subst hk7
      go_wp2
      go_ret
      exact ⟨by rw [HE.out HP.out]; rfl, by with_reducible (repeat' first | assumption | exact Below.refl _ _ | refine Below.drew ?_ | refine bdrewN ?_ _ | refine Below.setCell ?_ (by first | exact Nat.le_refl _ | (simp; done) | (simp; omega) | omega) _ | refine Below.alloc ?_ (by first | exact Nat.le_refl _ | (simp; done) | (simp; omega) | omega) _)⟩
end Go.Proofs.YtgojnijpjfdocaaGreat
