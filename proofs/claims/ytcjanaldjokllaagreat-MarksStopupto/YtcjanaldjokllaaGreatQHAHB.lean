/- The document's may, numbers, ahead. New memory alone is made. · The document's Set: what it leaves behind; where it is refused. -/
import Derived.Test.YtcjanaldjokllaaGreatQFRFXMA
import Derived.Test.YtcjanaldjokllaaGreatQA4rA2A3
namespace Go.Proofs.YtcjanaldjokllaaGreat
open Go.RowKit Go.Shelf
set_option linter.all false
theorem sameC_is {a b a' b' : Int} : sameC a b a' b' = true ↔ (a = a' ∧ b = b') := by simp [sameC]
def VL {α : Type} (sz : Nat) (cs : α → List Value) (w : World) (v : Value) (l : List α) : Prop := ∃ q cap, v = .slice q l.length cap ∧ l.length ≤ cap ∧ cap ≤ 9223372036854775807 ∧ (0 < l.length → ∃ g, q = some ⟨g, 0, none⟩ ∧ g < w.heap.size ∧ ∀ i x, l[i]? = some x → ∀ j u, (cs x)[j]? = some u → w.cell? ⟨g, i * sz + j, none⟩ = some u)
theorem RowG.vl {α : Type} {E : TypeId} {sz : Nat} {cs : α → List Value} {w : World} {base : Nat} {v : Value} {l : List α} (hc : ∀ x, (cs x).length = sz) (h : RowG E sz cs w base v l) : VL sz cs w v l := RowG.view hc h
theorem VL.keep {α : Type} {sz : Nat} {cs : α → List Value} {w w' : World} {v : Value} {l : List α} (h : VL sz cs w v l) (hb : Below w.heap.size w w') : VL sz cs w' v l := by
  obtain ⟨q, cap, h1, h2, h3, h4⟩ := h
  refine ⟨q, cap, h1, h2, h3, fun h0 => ?_⟩
  obtain ⟨g, k1, k2, k3⟩ := h4 h0
  exact ⟨g, k1, Nat.lt_of_lt_of_le k2 hb.size, fun i x hi j u hu => (hb.cell (p := ⟨g, i * sz + j, none⟩) k2).trans (k3 i x hi j u hu)⟩
theorem VF.keep {w w' : World} {v : Value} {l : List Rf} (h : VF w v l) (hb : Below w.heap.size w w') : VF w' v l := by
  obtain ⟨p, n, cap, h1, h2, h3, h4, h5⟩ := h
  refine ⟨p, n, cap, h1, h2, h3, h4, fun h0 => ?_⟩
  obtain ⟨b, o, k1, k2, k3⟩ := h5 h0
  exact ⟨b, o, k1, Nat.lt_of_lt_of_le k2 hb.size, fun i x hi j u hu => (hb.cell (p := ⟨b, o + i * 5 + j, none⟩) k2).trans (k3 i x hi j u hu)⟩
theorem VF.low {w : World} {v : Value} {l : List Rf} (h : VF w v l) {p : Addr} {n c : Nat} (e : v = .slice (some p) n c) (hn : 0 < n) : p.block < w.heap.size := by
  obtain ⟨p', n', cap, h1, h2, h3, h4, h5⟩ := h
  rw [h1] at e
  injection e with e1 e2 e3
  subst e2
  obtain ⟨b, o, k1, k2, k3⟩ := h5 hn
  rw [k1] at e1
  injection e1 with e1
  rw [← e1]
  exact k2
theorem cst_app (D : List Dv) (d : Dv) : cst (D ++ [d]) = cst D + d.l.length + 1 := by simp [cst]; omega
theorem Own.low {w w' : World} {b w0 : Nat} {A : Array Value} (h : Own w b A) (hb : Below w0 w w') (hl : b < w0) : Own w' b A := h.of_block (hb.block b hl)
theorem infoEd : (Tryz.prog.info? 55).map (fun i => (i.zero, i.size, i.bytes)) = some (some (.agg #[.int .i64 0, .int .i64 0, .bool false, .int .i64 0, .int .i64 0, .int .i64 0, .int .i64 0]), 7, 56) := by kernel_rfl
set_option maxRecDepth 100000 in
theorem rmf_no (t l b q : Int) (w : World) (m : Bool) (hm : mayR t l b q = false) (h1 : (t == b) = true ∨ (t == b) = false) (h2 : (l == q) = true ∨ (l == q) = false) : Calls Tryz.prog 49 #[.agg #[.bool m, .int .i64 t, .int .i64 l, .int .i64 b, .int .i64 q]] w fun e w' => e = .returned (.bool false) ∧ Below w.heap.size w w' := by
  have HM : Hid (∀ W, Calls Tryz.prog 75 #[.agg #[.int .i64 t, .int .i64 l, .int .i64 b, .int .i64 q]] W fun e w' => e = .returned (.bool false) ∧ Below W.heap.size W w') := (show _ from fun W => by rw [← hm]; exact rmayR_any t l b q W)
  clear hm
  go_enter Tryz.func49, Tryz.ntmps49
  rcases h1 with h1 | h1 <;> rcases h2 with h2 | h2
  all_goals go_wp2_with (go_at_call 75; refine (HM.out _).mono ?_; rintro e wa ⟨rfl, hba⟩; have hBa : Below w.heap.size w wa := bup zqb hba; have oXa : Own wa w.heap.size #[.bool m, .int .i64 t, .int .i64 l, .int .i64 b, .int .i64 q] := Own.keep (by with_reducible (repeat' first | assumption | refine Own.drew ?_ | refine Own.drewN ?_ _ | (refine Own.at ?_; first | rfl | (simp; done)) | refine Own.past ?_ _)) hba; have cXa := oXa.cell; have lXa := oXa.lt; clear hba)
  all_goals go_ret
  all_goals exact ⟨rfl, by with_reducible (repeat' first | assumption | exact Below.refl _ _ | refine Below.drew ?_ | refine bdrewN ?_ _ | refine Below.setCell ?_ (by first | exact Nat.le_refl _ | (simp; done) | (simp; omega) | omega) _ | refine Below.alloc ?_ (by first | exact Nat.le_refl _ | (simp; done) | (simp; omega) | omega) _)⟩
set_option maxRecDepth 100000 in
theorem rmf_many (t l b q : Int) (w : World) (hm : mayR t l b q = true) (h1 : (t == b) = true ∨ (t == b) = false) (h2 : (l == q) = true ∨ (l == q) = false) : Calls Tryz.prog 49 #[.agg #[.bool true, .int .i64 t, .int .i64 l, .int .i64 b, .int .i64 q]] w fun e w' => e = .returned (.bool true) ∧ Below w.heap.size w w' := by
  have HM : Hid (∀ W, Calls Tryz.prog 75 #[.agg #[.int .i64 t, .int .i64 l, .int .i64 b, .int .i64 q]] W fun e w' => e = .returned (.bool true) ∧ Below W.heap.size W w') := (show _ from fun W => by rw [← hm]; exact rmayR_any t l b q W)
  clear hm
  go_enter Tryz.func49, Tryz.ntmps49
  rcases h1 with h1 | h1 <;> rcases h2 with h2 | h2
  all_goals go_wp2_with (go_at_call 75; refine (HM.out _).mono ?_; rintro e wa ⟨rfl, hba⟩; have hBa : Below w.heap.size w wa := bup zqb hba; have oXa : Own wa w.heap.size #[.bool true, .int .i64 t, .int .i64 l, .int .i64 b, .int .i64 q] := Own.keep (by with_reducible (repeat' first | assumption | refine Own.drew ?_ | refine Own.drewN ?_ _ | (refine Own.at ?_; first | rfl | (simp; done)) | refine Own.past ?_ _)) hba; have cXa := oXa.cell; have lXa := oXa.lt; clear hba)
  all_goals go_ret
  all_goals exact ⟨rfl, by with_reducible (repeat' first | assumption | exact Below.refl _ _ | refine Below.drew ?_ | refine bdrewN ?_ _ | refine Below.setCell ?_ (by first | exact Nat.le_refl _ | (simp; done) | (simp; omega) | omega) _ | refine Below.alloc ?_ (by first | exact Nat.le_refl _ | (simp; done) | (simp; omega) | omega) _)⟩
set_option maxRecDepth 100000 in
theorem rmf_row (t l b q : Int) (w : World) (hm : mayR t l b q = true) (h1 : ¬ t = b) : Calls Tryz.prog 49 #[.agg #[.bool false, .int .i64 t, .int .i64 l, .int .i64 b, .int .i64 q]] w fun e w' => e = .returned (.bool false) ∧ Below w.heap.size w w' := by
  have HM : Hid (∀ W, Calls Tryz.prog 75 #[.agg #[.int .i64 t, .int .i64 l, .int .i64 b, .int .i64 q]] W fun e w' => e = .returned (.bool true) ∧ Below W.heap.size W w') := (show _ from fun W => by rw [← hm]; exact rmayR_any t l b q W)
  have h1' : (t == b) = false := by simpa using h1
  clear hm
  go_enter Tryz.func49, Tryz.ntmps49
  go_wp2_with (go_at_call 75; refine (HM.out _).mono ?_; rintro e wa ⟨rfl, hba⟩; have hBa : Below w.heap.size w wa := bup zqb hba; have oXa : Own wa w.heap.size #[.bool false, .int .i64 t, .int .i64 l, .int .i64 b, .int .i64 q] := Own.keep (by with_reducible (repeat' first | assumption | refine Own.drew ?_ | refine Own.drewN ?_ _ | (refine Own.at ?_; first | rfl | (simp; done)) | refine Own.past ?_ _)) hba; have cXa := oXa.cell; have lXa := oXa.lt; clear hba)
  go_ret
  exact ⟨rfl, by with_reducible (repeat' first | assumption | exact Below.refl _ _ | refine Below.drew ?_ | refine bdrewN ?_ _ | refine Below.setCell ?_ (by first | exact Nat.le_refl _ | (simp; done) | (simp; omega) | omega) _ | refine Below.alloc ?_ (by first | exact Nat.le_refl _ | (simp; done) | (simp; omega) | omega) _)⟩
set_option maxRecDepth 100000 in
theorem rmf_col (t l b q : Int) (w : World) (hm : mayR t l b q = true) (h1 : t = b) (h2 : ¬ l = q) : Calls Tryz.prog 49 #[.agg #[.bool false, .int .i64 t, .int .i64 l, .int .i64 b, .int .i64 q]] w fun e w' => e = .returned (.bool false) ∧ Below w.heap.size w w' := by
  have HM : Hid (∀ W, Calls Tryz.prog 75 #[.agg #[.int .i64 t, .int .i64 l, .int .i64 b, .int .i64 q]] W fun e w' => e = .returned (.bool true) ∧ Below W.heap.size W w') := (show _ from fun W => by rw [← hm]; exact rmayR_any t l b q W)
  have h1' : (t == b) = true := by simpa using h1
  have h2' : (l == q) = false := by simpa using h2
  clear h1
  clear hm
  go_enter Tryz.func49, Tryz.ntmps49
  go_wp2_with (go_at_call 75; refine (HM.out _).mono ?_; rintro e wa ⟨rfl, hba⟩; have hBa : Below w.heap.size w wa := bup zqb hba; have oXa : Own wa w.heap.size #[.bool false, .int .i64 t, .int .i64 l, .int .i64 b, .int .i64 q] := Own.keep (by with_reducible (repeat' first | assumption | refine Own.drew ?_ | refine Own.drewN ?_ _ | (refine Own.at ?_; first | rfl | (simp; done)) | refine Own.past ?_ _)) hba; have cXa := oXa.cell; have lXa := oXa.lt; clear hba)
  go_ret
  exact ⟨rfl, by with_reducible (repeat' first | assumption | exact Below.refl _ _ | refine Below.drew ?_ | refine bdrewN ?_ _ | refine Below.setCell ?_ (by first | exact Nat.le_refl _ | (simp; done) | (simp; omega) | omega) _ | refine Below.alloc ?_ (by first | exact Nat.le_refl _ | (simp; done) | (simp; omega) | omega) _)⟩
set_option maxRecDepth 100000 in
theorem rmf_one (t l b q : Int) (w : World) (hm : mayR t l b q = true) (h1 : t = b) (h2 : l = q) : Calls Tryz.prog 49 #[.agg #[.bool false, .int .i64 t, .int .i64 l, .int .i64 b, .int .i64 q]] w fun e w' => e = .returned (.bool true) ∧ Below w.heap.size w w' := by
  have HM : Hid (∀ W, Calls Tryz.prog 75 #[.agg #[.int .i64 t, .int .i64 l, .int .i64 b, .int .i64 q]] W fun e w' => e = .returned (.bool true) ∧ Below W.heap.size W w') := (show _ from fun W => by rw [← hm]; exact rmayR_any t l b q W)
  have h1' : (t == b) = true := by simpa using h1
  have h2' : (l == q) = true := by simpa using h2
  clear h1 h2
  clear hm
  go_enter Tryz.func49, Tryz.ntmps49
  go_wp2_with (go_at_call 75; refine (HM.out _).mono ?_; rintro e wa ⟨rfl, hba⟩; have hBa : Below w.heap.size w wa := bup zqb hba; have oXa : Own wa w.heap.size #[.bool false, .int .i64 t, .int .i64 l, .int .i64 b, .int .i64 q] := Own.keep (by with_reducible (repeat' first | assumption | refine Own.drew ?_ | refine Own.drewN ?_ _ | (refine Own.at ?_; first | rfl | (simp; done)) | refine Own.past ?_ _)) hba; have cXa := oXa.cell; have lXa := oXa.lt; clear hba)
  go_ret
  exact ⟨rfl, by with_reducible (repeat' first | assumption | exact Below.refl _ _ | refine Below.drew ?_ | refine bdrewN ?_ _ | refine Below.setCell ?_ (by first | exact Nat.le_refl _ | (simp; done) | (simp; omega) | omega) _ | refine Below.alloc ?_ (by first | exact Nat.le_refl _ | (simp; done) | (simp; omega) | omega) _)⟩
theorem rmayf_any (x : Rf) (w : World) : Calls Tryz.prog 49 #[.agg #[.bool x.m, .int .i64 x.t, .int .i64 x.l, .int .i64 x.b, .int .i64 x.q]] w fun e w' => e = .returned (.bool (mayF x)) ∧ Below w.heap.size w w' := by
  obtain ⟨m, t, l, b, q⟩ := x
  have e1 : (t == b) = true ∨ (t == b) = false := by cases t == b <;> simp
  have e2 : (l == q) = true ∨ (l == q) = false := by cases l == q <;> simp
  cases hm : mayR t l b q
  · have e : mayF ⟨m, t, l, b, q⟩ = false := by simp [mayF, hm]
    rw [e]; exact rmf_no t l b q w m hm e1 e2
  · cases m
    · by_cases h1 : t = b
      · by_cases h2 : l = q
        · have e : mayF ⟨false, t, l, b, q⟩ = true := by simp [mayF, hm, h1, h2] at hm ⊢; simpa [h1, h2] using hm
          rw [e]; exact rmf_one t l b q w hm h1 h2
        · have e : mayF ⟨false, t, l, b, q⟩ = false := by simp [mayF, hm, h1, h2]
          rw [e]; exact rmf_col t l b q w hm h1 h2
      · have e : mayF ⟨false, t, l, b, q⟩ = false := by simp [mayF, hm, h1]
        rw [e]; exact rmf_row t l b q w hm h1
    · have e : mayF ⟨true, t, l, b, q⟩ = true := by simp [mayF, hm]
      rw [e]; exact rmf_many t l b q w hm e1 e2
set_option maxRecDepth 100000 in
set_option maxHeartbeats 1000000 in
theorem num_any (r c t l b q : Int) (m : Bool) (w : World) : Calls Tryz.prog 76 #[.agg #[.int .i64 r, .int .i64 c, .bool m, .int .i64 t, .int .i64 l, .int .i64 b, .int .i64 q]] w fun e w' => e = .returned (.agg #[.int .i64 r, .int .i64 c, .int .i64 t, .int .i64 l, .int .i64 b, .int .i64 q, .int .i64 (mI m)]) ∧ Below w.heap.size w w' := by
  cases m
  · go_enter Tryz.func76, Tryz.ntmps76
    go_wp2
    exact bodyPost_ret (v := .agg #[.int .i64 r, .int .i64 c, .int .i64 t, .int .i64 l, .int .i64 b, .int .i64 q, .int .i64 0]) (by simp [results, Tryz.results76, go_sem]) rfl ⟨rfl, by with_reducible (repeat' first | assumption | exact Below.refl _ _ | refine Below.drew ?_ | refine bdrewN ?_ _ | refine Below.setCell ?_ (by first | exact Nat.le_refl _ | (simp; done) | (simp; omega) | omega) _ | refine Below.alloc ?_ (by first | exact Nat.le_refl _ | (simp; done) | (simp; omega) | omega) _)⟩
  · go_enter Tryz.func76, Tryz.ntmps76
    go_wp2
    exact bodyPost_ret (v := .agg #[.int .i64 r, .int .i64 c, .int .i64 t, .int .i64 l, .int .i64 b, .int .i64 q, .int .i64 1]) (by simp [results, Tryz.results76, go_sem]) rfl ⟨rfl, by with_reducible (repeat' first | assumption | exact Below.refl _ _ | refine Below.drew ?_ | refine bdrewN ?_ _ | refine Below.setCell ?_ (by first | exact Nat.le_refl _ | (simp; done) | (simp; omega) | omega) _ | refine Below.alloc ?_ (by first | exact Nat.le_refl _ | (simp; done) | (simp; omega) | omega) _)⟩
/-- The numbers by which an edge is sorted. -/
def numsE (x : Ed) : List Int := [x.r, x.c, x.f.t, x.f.l, x.f.b, x.f.q, mI x.f.m]
theorem mI_inj {a b : Bool} (h : mI a = mI b) : a = b := by cases a <;> cases b <;> simp [mI] at h ⊢
theorem lex_at (x y : Ed) (k : Nat) (a b : Int) (hk : k < 7) (hx : (numsE x)[k]? = some a) (hy : (numsE y)[k]? = some b) (hp : ∀ j, j < k → (numsE x)[j]? = (numsE y)[j]?) (hn : a ≠ b) : (cmpD x y < 0) = (a < b) := by
  have hl : (cmpD x y < 0) = (ltOf cmpD x y = true) := by unfold ltOf; rw [decide_eq_true_eq]
  rw [hl, cmpD_lt]
  have p0 : 0 < k → x.r = y.r := fun q => by simpa [numsE] using hp 0 q
  have p1 : 1 < k → x.c = y.c := fun q => by simpa [numsE] using hp 1 q
  have p2 : 2 < k → x.f.t = y.f.t := fun q => by simpa [numsE] using hp 2 q
  have p3 : 3 < k → x.f.l = y.f.l := fun q => by simpa [numsE] using hp 3 q
  have p4 : 4 < k → x.f.b = y.f.b := fun q => by simpa [numsE] using hp 4 q
  have p5 : 5 < k → x.f.q = y.f.q := fun q => by simpa [numsE] using hp 5 q
  refine propext ?_
  match k, hk with
  | 0, _ => simp [numsE] at hx hy; omega
  | 1, _ => simp [numsE] at hx hy; omega
  | 2, _ => simp [numsE] at hx hy; omega
  | 3, _ => simp [numsE] at hx hy; omega
  | 4, _ => simp [numsE] at hx hy; omega
  | 5, _ => simp [numsE] at hx hy; omega
  | 6, _ => simp [numsE] at hx hy; omega
theorem lex_end (x y : Ed) (hp : ∀ j, j < 7 → (numsE x)[j]? = (numsE y)[j]?) : x = y := by
  have p0 : x.r = y.r := by simpa [numsE] using hp 0 (by omega)
  have p1 : x.c = y.c := by simpa [numsE] using hp 1 (by omega)
  have p2 : x.f.t = y.f.t := by simpa [numsE] using hp 2 (by omega)
  have p3 : x.f.l = y.f.l := by simpa [numsE] using hp 3 (by omega)
  have p4 : x.f.b = y.f.b := by simpa [numsE] using hp 4 (by omega)
  have p5 : x.f.q = y.f.q := by simpa [numsE] using hp 5 (by omega)
  have p6 : mI x.f.m = mI y.f.m := by simpa [numsE] using hp 6 (by omega)
  obtain ⟨a, b, ⟨m, t, l, bb, q⟩⟩ := x
  obtain ⟨a', b', ⟨m', t', l', bb', q'⟩⟩ := y
  simp only at p0 p1 p2 p3 p4 p5 p6
  rw [p0, p1, p2, p3, p4, p5, mI_inj p6]
theorem nums_some (x : Ed) {k : Nat} (hk : k < 7) : ∃ a, (numsE x)[k]? = some a := ⟨_, List.getElem?_eq_getElem (show k < (numsE x).length from hk)⟩
def vNum (x : Ed) : Array Value := #[.int .i64 x.r, .int .i64 x.c, .int .i64 x.f.t, .int .i64 x.f.l, .int .i64 x.f.b, .int .i64 x.f.q, .int .i64 (mI x.f.m)]
theorem vNum_at {x : Ed} {k : Nat} {a : Int} (h : (numsE x)[k]? = some a) : (vNum x)[k]? = some (.int .i64 a) := by
  have e : vNum x = ((numsE x).map (Value.int .i64)).toArray := rfl
  rw [e, List.getElem?_toArray, List.getElem?_map, h]
  rfl
set_option maxRecDepth 100000 in
set_option maxHeartbeats 4000000 in
theorem ahead_any (x y : Ed) (w : World) : Calls Tryz.prog 50 #[.agg #[.int .i64 x.r, .int .i64 x.c, .bool x.f.m, .int .i64 x.f.t, .int .i64 x.f.l, .int .i64 x.f.b, .int .i64 x.f.q], .agg #[.int .i64 y.r, .int .i64 y.c, .bool y.f.m, .int .i64 y.f.t, .int .i64 y.f.l, .int .i64 y.f.b, .int .i64 y.f.q]] w fun e w' => e = .returned (.bool (decide (cmpD x y < 0))) ∧ Below w.heap.size w w' := by
  have mixed : Tryz.prog.follows .mixedOrders = true := by kernel_rfl
  have HX : Hid (∀ W, Calls Tryz.prog 76 #[.agg #[.int .i64 x.r, .int .i64 x.c, .bool x.f.m, .int .i64 x.f.t, .int .i64 x.f.l, .int .i64 x.f.b, .int .i64 x.f.q]] W fun e w' => e = .returned (.agg #[.int .i64 x.r, .int .i64 x.c, .int .i64 x.f.t, .int .i64 x.f.l, .int .i64 x.f.b, .int .i64 x.f.q, .int .i64 (mI x.f.m)]) ∧ Below W.heap.size W w') := (show _ from fun W => num_any _ _ _ _ _ _ _ W)
  have HY : Hid (∀ W, Calls Tryz.prog 76 #[.agg #[.int .i64 y.r, .int .i64 y.c, .bool y.f.m, .int .i64 y.f.t, .int .i64 y.f.l, .int .i64 y.f.b, .int .i64 y.f.q]] W fun e w' => e = .returned (.agg #[.int .i64 y.r, .int .i64 y.c, .int .i64 y.f.t, .int .i64 y.f.l, .int .i64 y.f.b, .int .i64 y.f.q, .int .i64 (mI y.f.m)]) ∧ Below W.heap.size W w') := (show _ from fun W => num_any _ _ _ _ _ _ _ W)
  have HXs : Hid (∀ k, k < 7 → ∃ a, (numsE x)[k]? = some a ∧ (#[.int .i64 x.r, .int .i64 x.c, .int .i64 x.f.t, .int .i64 x.f.l, .int .i64 x.f.b, .int .i64 x.f.q, .int .i64 (mI x.f.m)] : Array Value)[k]? = some (.int .i64 a)) := (show _ from fun k hk => by obtain ⟨a, h⟩ := nums_some x hk; exact ⟨a, h, vNum_at h⟩)
  have HYs : Hid (∀ k, k < 7 → ∃ a, (numsE y)[k]? = some a ∧ (#[.int .i64 y.r, .int .i64 y.c, .int .i64 y.f.t, .int .i64 y.f.l, .int .i64 y.f.b, .int .i64 y.f.q, .int .i64 (mI y.f.m)] : Array Value)[k]? = some (.int .i64 a)) := (show _ from fun k hk => by obtain ⟨a, h⟩ := nums_some y hk; exact ⟨a, h, vNum_at h⟩)
  have HL : Hid (∀ k a b, k < 7 → (numsE x)[k]? = some a → (numsE y)[k]? = some b → (∀ j, j < k → (numsE x)[j]? = (numsE y)[j]?) → a ≠ b → decide (cmpD x y < 0) = decide (a < b)) := (show _ from fun k a b h1 h2 h3 h4 h5 => by simp only [lex_at x y k a b h1 h2 h3 h4 h5])
  have HE : Hid ((∀ j, j < 7 → (numsE x)[j]? = (numsE y)[j]?) → decide (cmpD x y < 0) = false) := (show _ → _ from fun h => by
    have e := lex_end x y h
    have h0 := (cmpD_zero x y).2 e
    rw [h0]
    rfl)
  obtain ⟨nx, hnx⟩ : ∃ nx, nx = numsE x := ⟨_, rfl⟩
  obtain ⟨ny, hny⟩ : ∃ ny, ny = numsE y := ⟨_, rfl⟩
  rw [← hnx] at HXs HL HE
  rw [← hny] at HYs HL HE
  clear hnx hny
  have t1 : True := trivial
  have t2 : True := trivial
  go_enter Tryz.func50, Tryz.ntmps50
  go_wp2_with (first
    | (go_at_call 76; clear t1; refine (HX.out _).mono ?_; rintro e w1 ⟨rfl, hb⟩; have hB1 : Below w.heap.size w w1 := bup zqb hb; have oY1 : Own w1 (w.heap.size + 1) #[.int .i64 y.r, .int .i64 y.c, .bool y.f.m, .int .i64 y.f.t, .int .i64 y.f.l, .int .i64 y.f.b, .int .i64 y.f.q] := Own.keep (by with_reducible (repeat' first | assumption | refine Own.drew ?_ | refine Own.drewN ?_ _ | (refine Own.at ?_; first | rfl | (simp; done)) | refine Own.past ?_ _)) hb; have y1 := oY1.cell; have lY1 := oY1.lt; clear hb)
    | (go_at_call 76; clear t2; refine (HY.out _).mono ?_; rintro e w2 ⟨rfl, hb⟩; have hB2 : Below w.heap.size w w2 := bup zqb hb; have oX2 : Own w2 w1.heap.size #[.int .i64 x.r, .int .i64 x.c, .int .i64 x.f.t, .int .i64 x.f.l, .int .i64 x.f.b, .int .i64 x.f.q, .int .i64 (mI x.f.m)] := Own.keep (by with_reducible (repeat' first | assumption | refine Own.drew ?_ | refine Own.drewN ?_ _ | (refine Own.at ?_; first | rfl | (simp; done)) | refine Own.past ?_ _)) hb; clear hb))
  obtain ⟨W0, hW0⟩ : ∃ W0 : World, W0 = w2.alloc (.cells #[.int .i64 y.r, .int .i64 y.c, .int .i64 y.f.t, .int .i64 y.f.l, .int .i64 y.f.b, .int .i64 y.f.q, .int .i64 (mI y.f.m)] 128) := ⟨_, rfl⟩
  have z1 := hB1.size
  have z2 := hB2.size
  have hB0 : Below w.heap.size w W0 := (by rw [hW0]; with_reducible (repeat' first | assumption | exact Below.refl _ _ | refine Below.drew ?_ | refine bdrewN ?_ _ | refine Below.setCell ?_ (by first | exact Nat.le_refl _ | (simp; done) | (simp; omega) | omega) _ | refine Below.alloc ?_ (by first | exact Nat.le_refl _ | (simp; done) | (simp; omega) | omega) _))
  have oX0 : Own W0 w1.heap.size #[.int .i64 x.r, .int .i64 x.c, .int .i64 x.f.t, .int .i64 x.f.l, .int .i64 x.f.b, .int .i64 x.f.q, .int .i64 (mI x.f.m)] := (by rw [hW0]; with_reducible (repeat' first | assumption | refine Own.drew ?_ | refine Own.drewN ?_ _ | (refine Own.at ?_; first | rfl | (simp; done)) | refine Own.past ?_ _))
  have oY0 : Own W0 w2.heap.size #[.int .i64 y.r, .int .i64 y.c, .int .i64 y.f.t, .int .i64 y.f.l, .int .i64 y.f.b, .int .i64 y.f.q, .int .i64 (mI y.f.m)] := (by rw [hW0]; with_reducible (repeat' first | assumption | refine Own.drew ?_ | refine Own.drewN ?_ _ | (refine Own.at ?_; first | rfl | (simp; done)) | refine Own.past ?_ _))
  rw [← hW0]
  have zX := oX0.lt
  have zY := oY0.lt
  have HX0 : Hid (∀ k, k < 7 → ∃ a, nx[k]? = some a ∧ W0.cell? ⟨w1.heap.size, k, none⟩ = some (.int .i64 a)) := (show _ from fun k hk => by
    obtain ⟨a, h1, h2⟩ := HXs.out k hk
    exact ⟨a, h1, (oX0.cell k).trans h2⟩)
  have HY0 : Hid (∀ k, k < 7 → ∃ a, ny[k]? = some a ∧ W0.cell? ⟨w2.heap.size, k, none⟩ = some (.int .i64 a)) := (show _ from fun k hk => by
    obtain ⟨a, h1, h2⟩ := HYs.out k hk
    exact ⟨a, h1, (oY0.cell k).trans h2⟩)
  clear hW0 oX0 oY0 HXs HYs HX HY hB1 hB2
  go_loopw [7] (fun u7 w' => ∃ k : Nat, u7 = .int .i64 k ∧ k ≤ 7 ∧ Hid (∀ j, j < k → nx[j]? = ny[j]?) ∧ Below W0.heap.size W0 w') (fun u7 _ => 7 - (intOf u7).toNat)
  case atStart => exact ⟨0, rfl, by omega, (show Hid _ from fun j hj => absurd hj (Nat.not_lt_zero _)), by with_reducible (repeat' first | assumption | exact Below.refl _ _ | refine Below.drew ?_ | refine bdrewN ?_ _ | refine Below.setCell ?_ (by first | exact Nat.le_refl _ | (simp; done) | (simp; omega) | omega) _ | refine Below.alloc ?_ (by first | exact Nat.le_refl _ | (simp; done) | (simp; omega) | omega) _)⟩
  case round =>
    obtain ⟨k, rfl, hk, HP, hB⟩ := hrel
    have hBw : Below w.heap.size w wr := bup hB0 hB
    by_cases hlt : k < 7
    · have hlt' : (k : Int) < 7 := by omega
      obtain ⟨a, ha, hac⟩ := HX0.out k hlt
      obtain ⟨b, hb, hbc⟩ := HY0.out k hlt
      have xa : wr.cell? ⟨w1.heap.size, k, none⟩ = some (.int .i64 a) := (hB.cell (p := ⟨w1.heap.size, k, none⟩) zX).trans hac
      have xb : wr.cell? ⟨w2.heap.size, k, none⟩ = some (.int .i64 b) := (hB.cell (p := ⟨w2.heap.size, k, none⟩) zY).trans hbc
      clear hac hbc
      by_cases hab : a = b
      · subst hab
        have hne : (a != a) = false := by simp
        have HP2 : Hid (∀ j, j < k + 1 → nx[j]? = ny[j]?) := (show _ from fun j hj => by
          by_cases e : j = k
          · subst e; rw [ha, hb]
          · exact HP.out j (by omega))
        go_wp2
        go_quiet (fail)
        go_wp2
        exact ⟨⟨k + 1, by go_num, by omega, HP2, by with_reducible (repeat' first | assumption | exact Below.refl _ _ | refine Below.drew ?_ | refine bdrewN ?_ _ | refine Below.setCell ?_ (by first | exact Nat.le_refl _ | (simp; done) | (simp; omega) | omega) _ | refine Below.alloc ?_ (by first | exact Nat.le_refl _ | (simp; done) | (simp; omega) | omega) _)⟩, by simp [intOf] <;> omega⟩
      · have hne : (a != b) = true := by simpa using hab
        have HF : Hid (decide (cmpD x y < 0) = decide (a < b)) := HL.out k a b hlt ha hb HP.out hab
        clear ha hb HL HE
        go_wp2
        go_quiet (fail)
        go_wp2
        go_quiet (fail)
        go_wp2
        go_ret
        exact ⟨by rw [HF.out]; rfl, by with_reducible (repeat' first | assumption | exact Below.refl _ _ | refine Below.drew ?_ | refine bdrewN ?_ _ | refine Below.setCell ?_ (by first | exact Nat.le_refl _ | (simp; done) | (simp; omega) | omega) _ | refine Below.alloc ?_ (by first | exact Nat.le_refl _ | (simp; done) | (simp; omega) | omega) _)⟩
    · have hk7 : k = 7 := by omega
      subst hk7
      go_wp2
      go_ret
      exact ⟨by rw [HE.out HP.out]; rfl, by with_reducible (repeat' first | assumption | exact Below.refl _ _ | refine Below.drew ?_ | refine bdrewN ?_ _ | refine Below.setCell ?_ (by first | exact Nat.le_refl _ | (simp; done) | (simp; omega) | omega) _ | refine Below.alloc ?_ (by first | exact Nat.le_refl _ | (simp; done) | (simp; omega) | omega) _)⟩
end Go.Proofs.YtcjanaldjokllaaGreat
namespace Go.Proofs.YtcjanaldjokllaaGreat
open Go.RowKit Go.Shelf
set_option linter.all false
/-- The document's Deps turned: another list of edges. -/
def ROut (w : World) (R : Nat) (v : Value) (P' : List Ed) (w' : World) : Prop := (∃ v', Own w' R #[v'] ∧ RowD w' 0 v' P' ∧ ∀ g, v'.ownBlock = some g → v.ownBlock = some g ∨ w.heap.size ≤ g) ∧ Mut (fun k => k = R) w w'
theorem ROut.same {w w' : World} {R : Nat} {v : Value} {P : List Ed} (ho : Own w R #[v]) (hr : RowD w 0 v P) (hb : Below w.heap.size w w') : ROut w R v P w' := ⟨⟨v, ho.keep hb, RowG.keep hr hb, fun g hg => .inl hg⟩, Mut.of_below hb⟩
theorem ROut.put {w W : World} {R : Nat} {v u : Value} {P' : List Ed} (ho : Own w R #[v]) (hb : Below w.heap.size w W) (hr : RowD W w.heap.size u P') : ROut w R v P' (W.setCell ⟨R, 0, none⟩ u) :=
  ⟨⟨u, own_put (k := 0) (ho.keep hb) (by simp), RowG.mono (RowG.aside hr _ (fun g hg => by have := (RowG.lt hr g hg).1; have := ho.lt; simp; omega)) (Nat.zero_le _), fun g hg => .inr (RowG.lt hr g hg).1⟩, Mut.set (S := fun k => k = R) (Mut.of_below hb) (.inl rfl) _⟩
def inC (d : Dv) (e : Ed) : Bool := sameC e.r e.c d.r d.c
/-- The list under way. -/
structure Ins (P : List Ed) (d : Dv) (k : Nat) (L : List Ed) : Prop where
  srt : SrtE L
  mem : ∀ e, e ∈ L ↔ ((e ∈ P ∧ inC d e = false) ∨ (inC d e = true ∧ e.f ∈ d.l.take k))
  len : L.length ≤ P.length + k
theorem Ins.first {P : List Ed} {d : Dv} (h : SrtE P) : Ins P d 0 (P.filter (fun e => !inC d e)) := by
  refine ⟨h.filter _, fun e => ?_, Nat.le_trans (List.length_filter_le _ _) (by omega)⟩
  rw [List.mem_filter]
  simp
theorem srt_ins {L : List Ed} (h : SrtE L) {x : Ed} {k : Nat} (hk : k ≤ L.length) (h1 : ∀ j y, j < k → L[j]? = some y → cmpD y x < 0) (h2 : ∀ y, L[k]? = some y → 0 ≤ cmpD y x ∧ y ≠ x) : SrtE (L.take k ++ [x] ++ L.drop k) ∧ ∀ e, e ∈ L.take k ++ [x] ++ L.drop k ↔ (e ∈ L ∨ e = x) := by
  have hs : SrtE (L.take k ++ L.drop k) := by rw [List.take_append_drop]; exact h
  rw [SrtE, List.pairwise_append] at hs
  have a1 : ∀ y ∈ L.take k, cmpD y x < 0 := fun y hy => by
    obtain ⟨j, hj, rfl⟩ := List.getElem_of_mem hy
    rw [List.length_take] at hj
    refine h1 j _ (by omega) ?_
    rw [List.getElem_take]
    exact List.getElem?_eq_getElem (by omega)
  have a2 : ∀ z ∈ L.drop k, cmpD x z < 0 := fun z hz => by
    cases hd : L[k]? with
    | none =>
      rw [List.drop_of_length_le (by have := List.getElem?_eq_none_iff.1 hd; omega)] at hz
      cases hz
    | some y =>
      obtain ⟨q1, q2⟩ := h2 y hd
      have hxy : cmpD x y < 0 := by
        by_cases q : cmpD x y < 0
        · exact q
        · exact absurd (cmpD_tot y x (decide_eq_false (by omega)) (decide_eq_false q)) q2
      obtain ⟨hk2, rfl⟩ := List.getElem?_eq_some_iff.1 hd
      rw [List.drop_eq_getElem_cons hk2] at hz
      rcases List.mem_cons.1 hz with p | p
      · rw [p]; exact hxy
      · have hs2 := hs.2.1
        rw [List.drop_eq_getElem_cons hk2] at hs2
        exact cmpD_tr hxy ((List.pairwise_cons.1 hs2).1 z p)
  refine ⟨?_, fun e => ?_⟩
  · rw [SrtE, List.append_assoc, List.pairwise_append]
    refine ⟨hs.1, List.pairwise_cons.2 ⟨a2, hs.2.1⟩, fun a ha b hb => ?_⟩
    rcases List.mem_cons.1 hb with p | p
    · rw [p]; exact a1 a ha
    · exact hs.2.2 a ha b p
  · have e1 : (e ∈ L) ↔ (e ∈ L.take k ∨ e ∈ L.drop k) := by rw [← List.mem_append, List.take_append_drop]
    rw [List.mem_append, List.mem_append, List.mem_singleton, e1]
    constructor
    · rintro ((q | q) | q)
      · exact .inl (.inl q)
      · exact .inr q
      · exact .inl (.inr q)
    · rintro ((q | q) | q)
      · exact .inl (.inl q)
      · exact .inr q
      · exact .inl (.inr q)
theorem take_memf {l : List Rf} {k : Nat} {f : Rf} (h : l[k]? = some f) (g : Rf) : g ∈ l.take (k + 1) ↔ (g ∈ l.take k ∨ g = f) := by
  rw [List.take_succ, h]
  simp
theorem inC_is {d : Dv} {e : Ed} : inC d e = true ↔ (e.r = d.r ∧ e.c = d.c) := sameC_is
theorem Ins.more {P : List Ed} {d : Dv} {k at' : Nat} {L : List Ed} {f : Rf} (h : Ins P d k L) (hf : d.l[k]? = some f) (hk : at' ≤ L.length) (h1 : ∀ j y, j < at' → L[j]? = some y → cmpD y ⟨d.r, d.c, f⟩ < 0) (h2 : ∀ y, L[at']? = some y → 0 ≤ cmpD y ⟨d.r, d.c, f⟩ ∧ y ≠ ⟨d.r, d.c, f⟩) : Ins P d (k + 1) (L.take at' ++ [⟨d.r, d.c, f⟩] ++ L.drop at') := by
  obtain ⟨s1, s2⟩ := srt_ins h.srt hk h1 h2
  refine ⟨s1, fun e => ?_, ?_⟩
  · rw [s2, h.mem, take_memf hf]
    constructor
    · rintro ((q | q) | q)
      · exact .inl q
      · exact .inr ⟨q.1, .inl q.2⟩
      · rw [q]; exact .inr ⟨inC_is.2 ⟨rfl, rfl⟩, .inr rfl⟩
    · rintro (q | ⟨q1, q2 | q2⟩)
      · exact .inl (.inl q)
      · exact .inl (.inr ⟨q1, q2⟩)
      · right
        obtain ⟨r, c, g⟩ := e
        have := inC_is.1 q1
        simp only at this q2
        rw [this.1, this.2, q2]
  · have := h.len
    simp only [List.length_append, List.length_take, List.length_drop, List.length_singleton]
    omega
theorem Ins.same {P : List Ed} {d : Dv} {k : Nat} {L : List Ed} {f : Rf} (h : Ins P d k L) (hf : d.l[k]? = some f) (hx : (⟨d.r, d.c, f⟩ : Ed) ∈ L) : Ins P d (k + 1) L := by
  refine ⟨h.srt, fun e => ?_, Nat.le_trans h.len (by omega)⟩
  rw [take_memf hf]
  constructor
  · intro q
    rcases (h.mem e).1 q with p | p
    · exact .inl p
    · exact .inr ⟨p.1, .inl p.2⟩
  · rintro (q | ⟨q1, q2 | q2⟩)
    · exact (h.mem e).2 (.inl q)
    · exact (h.mem e).2 (.inr ⟨q1, q2⟩)
    · obtain ⟨r, c, g⟩ := e
      have := inC_is.1 q1
      simp only at this q2
      rw [this.1, this.2, q2]
      exact hx
theorem Ins.last {E : Int → Int → List Rf} {P : List Ed} {d : Dv} {L : List Ed} (hP : IsEdg E P) (h : Ins P d d.l.length L) (ho : d.ok = true) : IsEdg (stepE E d) L := by
  refine ⟨h.srt, fun e => ?_⟩
  rw [h.mem, List.take_length, hP.2]
  unfold stepE updE
  rw [if_pos ho]
  by_cases q : e.r = d.r ∧ e.c = d.c
  · rw [if_pos q, onceR_mem, inC_is.2 q]
    simp
  · have : inC d e = false := by
      cases hh : inC d e
      · rfl
      · exact absurd (inC_is.1 hh) q
    rw [if_neg q, this]
    simp
set_option maxRecDepth 100000 in
theorem rset_addr (w : World) (R : Nat) (v : Value) (r c : Int) (hc : mayC r c = false) : Calls Tryz.prog 26 #[.pointer (some ⟨R, 0, none⟩), .agg #[.int .i64 r, .int .i64 c], v] w fun e w' => e = .returned (.int .i64 3) ∧ Below w.heap.size w w' := by
  have HC : Hid (∀ W, Calls Tryz.prog 48 #[.agg #[.int .i64 r, .int .i64 c]] W fun e w' => e = .returned (.bool false) ∧ Below W.heap.size W w') := (show _ from fun W => by rw [← hc]; exact rmay_any r c W)
  clear hc
  go_enter Tryz.func26, Tryz.ntmps26
  go_wp2_with (go_at_call 48; refine (HC.out _).mono ?_; rintro e wa ⟨rfl, hba⟩; have hBa : Below w.heap.size w wa := bup zqb hba; clear hba)
  go_ret
  exact ⟨rfl, hBa⟩
set_option maxRecDepth 100000 in
set_option maxHeartbeats 1000000 in
theorem rset_arg (w : World) (R : Nat) (v : Value) (l : List Rf) (r c : Int) (hv : VF w v l) (hc : mayC r c = true) (hl : ∃ f ∈ l, mayF f = false) : Calls Tryz.prog 26 #[.pointer (some ⟨R, 0, none⟩), .agg #[.int .i64 r, .int .i64 c], v] w fun e w' => e = .returned (.int .i64 1) ∧ Below w.heap.size w w' := by
  have HC : Hid (∀ W, Calls Tryz.prog 48 #[.agg #[.int .i64 r, .int .i64 c]] W fun e w' => e = .returned (.bool true) ∧ Below W.heap.size W w') := (show _ from fun W => by rw [← hc]; exact rmay_any r c W)
  obtain ⟨p, n, cap, rfl, hn, hcap, hmx, hp⟩ := hv
  have HE : Hid (∀ i, i < n → ∃ b o x, p = some ⟨b, o, none⟩ ∧ b < w.heap.size ∧ l[i]? = some x ∧ ∀ j u, (Rf.cs x)[j]? = some u → w.cell? ⟨b, o + i * 5 + j, none⟩ = some u) := (show _ from fun i hi => by
    obtain ⟨b, o, rfl, hb, hcl⟩ := hp (by omega)
    obtain ⟨x, hx⟩ : ∃ x, l[i]? = some x := ⟨_, List.getElem?_eq_getElem (by omega)⟩
    exact ⟨b, o, x, rfl, hb, hx, hcl i x hx⟩)
  have HN : Hid (n = l.length) := hn
  have HBad : Hid (∃ f ∈ l, mayF f = false) := hl
  clear hc hp hn hl
  go_enter Tryz.func26, Tryz.ntmps26
  go_wp2_with (go_at_call 48; refine (HC.out _).mono ?_; rintro e wa ⟨rfl, hba⟩; have hBa : Below w.heap.size w wa := bup zqb hba; clear hba)
  go_loopw [8] (fun u w' => ∃ i : Nat, u = .int .i64 i ∧ i ≤ n ∧ Hid (∀ j x, j < i → l[j]? = some x → mayF x = true) ∧ Below w.heap.size w w') (fun u _ => n - (intOf u).toNat)
  case atStart => exact ⟨0, rfl, by omega, (show Hid _ from fun j x hj => absurd hj (Nat.not_lt_zero _)), by with_reducible (repeat' first | assumption | exact Below.refl _ _ | refine Below.drew ?_ | refine bdrewN ?_ _ | refine Below.setCell ?_ (by first | exact Nat.le_refl _ | (simp; done) | (simp; omega) | omega) _ | refine Below.alloc ?_ (by first | exact Nat.le_refl _ | (simp; done) | (simp; omega) | omega) _)⟩
  case round =>
    obtain ⟨i, rfl, hi, HL, hB⟩ := hrel
    have zB := hB.size
    by_cases hlt : i < n
    · have hlt' : (i : Int) < n := by omega
      obtain ⟨b, o, f, rfl, hb, hf, hcl⟩ := HE.out i hlt
      have y0 : wr.cell? ⟨b, o + i * 5, none⟩ = some (.bool f.m) := (hB.cell (p := ⟨b, o + i * 5, none⟩) hb).trans (hcl 0 _ rfl)
      have y1 : wr.cell? ⟨b, o + i * 5 + 1, none⟩ = some (.int .i64 f.t) := (hB.cell (p := ⟨b, o + i * 5 + 1, none⟩) hb).trans (hcl 1 _ rfl)
      have y2 : wr.cell? ⟨b, o + i * 5 + 2, none⟩ = some (.int .i64 f.l) := (hB.cell (p := ⟨b, o + i * 5 + 2, none⟩) hb).trans (hcl 2 _ rfl)
      have y3 : wr.cell? ⟨b, o + i * 5 + 3, none⟩ = some (.int .i64 f.b) := (hB.cell (p := ⟨b, o + i * 5 + 3, none⟩) hb).trans (hcl 3 _ rfl)
      have y4 : wr.cell? ⟨b, o + i * 5 + 4, none⟩ = some (.int .i64 f.q) := (hB.cell (p := ⟨b, o + i * 5 + 4, none⟩) hb).trans (hcl 4 _ rfl)
      have hbr : b < wr.heap.size := by omega
      have HM0 := fun W => rmayf_any f W
      cases hm : mayF f
      · rw [hm] at HM0
        have HM : Hid (∀ W, Calls Tryz.prog 49 #[.agg #[.bool f.m, .int .i64 f.t, .int .i64 f.l, .int .i64 f.b, .int .i64 f.q]] W fun e w' => e = .returned (.bool false) ∧ Below W.heap.size W w') := HM0
        clear HM0 hm hf hcl
        go_wp2_with (go_at_call 49; refine (HM.out _).mono ?_; rintro e wb ⟨rfl, hbb⟩; have hBb : Below w.heap.size w wb := bup zqb hbb; clear hbb)
        go_ret
        exact ⟨rfl, hBb⟩
      · rw [hm] at HM0
        have HM : Hid (∀ W, Calls Tryz.prog 49 #[.agg #[.bool f.m, .int .i64 f.t, .int .i64 f.l, .int .i64 f.b, .int .i64 f.q]] W fun e w' => e = .returned (.bool true) ∧ Below W.heap.size W w') := HM0
        have HL2 : Hid (∀ j x, j < i + 1 → l[j]? = some x → mayF x = true) := (show _ from fun j x hj hx => by
          by_cases e : j = i
          · subst e; rw [hf] at hx; injection hx with hx; subst hx; exact hm
          · exact HL.out j x (by omega) hx)
        clear HM0 hm hf hcl
        go_wp2_with (go_at_call 49; refine (HM.out _).mono ?_; rintro e wb ⟨rfl, hbb⟩; have hBb : Below w.heap.size w wb := bup zqb hbb; clear hbb)
        exact ⟨⟨i + 1, by go_num, by omega, HL2, hBb⟩, by simp [intOf] <;> omega⟩
    · exfalso
      obtain ⟨f, hf, hm⟩ := HBad.out
      obtain ⟨j, hj, rfl⟩ := List.getElem_of_mem hf
      have := HL.out j _ (by have := HN.out; omega) (List.getElem?_eq_getElem hj)
      rw [hm] at this
      cases this
end Go.Proofs.YtcjanaldjokllaaGreat
