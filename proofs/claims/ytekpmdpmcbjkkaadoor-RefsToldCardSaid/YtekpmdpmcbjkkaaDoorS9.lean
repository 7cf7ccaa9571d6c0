/- The contract of the document's Of: of every formula the same list as refs's Of, in new memory. The conditions: the numbers in the nodes' values are int64. -/
import Derived.Test.YtekpmdpmcbjkkaaDoorS8
import Derived.Test.YtekpmdpmcbjkkaaDoorT1
namespace Go.Proofs.YtekpmdpmcbjkkaaDoor
open Go.Shelf Go.RowKit
set_option linter.all false
theorem Row.drewN {α : Type} {c : α → Array Value} {sz : Nat} {e : TypeId} {w : World} {base : Nat} {v : Value} {l : List α} (h : Row c sz e w base v l) (k : Nat) : Row c sz e (w.drewN k) base v l := h.keep (bdrewN (Below.refl _ _) k)
theorem ref_two (nd : Nd) (acc : List Rf) : ∃ (is0 : Bool) (r : Rf), refOut (refN nd) = .tuple #[.agg r.cells, .bool is0] ∧ ofStep acc nd = if (is0 && !(acc.any (fun x => sameRf x r))) = true then acc ++ [r] else acc := by
  cases h : refN nd with
  | none => exact ⟨false, rf0, rfl, by unfold ofStep; rw [h]; simp⟩
  | some r =>
    refine ⟨true, r, rfl, ?_⟩
    unfold ofStep; rw [h]; dsimp only; unfold addR
    cases hk : acc.any (fun x => sameRf x r) <;> simp
theorem any_y {acc : List Rf} {r x : Rf} {k : Nat} (h : acc[k]? = some x) (hs : sameRf x r = true) (b : Bool) : false = (b && !((acc.take (k + 1)).any (fun x => sameRf x r))) := by
  rw [List.take_add_one, h]; simp [hs]
theorem any_n {acc : List Rf} {r x : Rf} {k : Nat} (h : acc[k]? = some x) (hs : sameRf x r = false) : (acc.take (k + 1)).any (fun x => sameRf x r) = (acc.take k).any (fun x => sameRf x r) := by
  rw [List.take_add_one, h]; simp [hs]
theorem own_put5 {W : World} {b : Nat} {x0 x1 x2 x3 x4 y0 y1 y2 y3 y4 : Value} (h : Own W b #[x0, x1, x2, x3, x4]) : Own (((((W.setCell ⟨b, 0, none⟩ y0).setCell ⟨b, 1, none⟩ y1).setCell ⟨b, 2, none⟩ y2).setCell ⟨b, 3, none⟩ y3).setCell ⟨b, 4, none⟩ y4) b #[y0, y1, y2, y3, y4] :=
  own_put (k := 4) (own_put (k := 3) (own_put (k := 2) (own_put (k := 1) (own_put (k := 0) h (by simp)) (by simp)) (by simp)) (by simp)) (by simp)
set_option maxRecDepth 100000 in
set_option maxHeartbeats 8000000 in
theorem rof_y (w : World) (b o cap n : Nat) (ns : List Nd) (hlb : b < w.heap.size) (HC : ∀ i x, ns[i]? = some x → ∀ j, j < 15 → w.cell? ⟨b, o + i * 15 + j, none⟩ = (Nd.cells x)[j]?)
    (hn : ns.length = n) (hcap : n ≤ cap) (h0 : 0 < n) (hl : n ≤ 1024)
    (hCk : ∀ w1, Below w.heap.size w w1 → Calls Tryd.prog 12 #[.agg #[.slice (some ⟨b, o, none⟩) n cap]] w1 fun e w' => e = .returned (.int .i64 0) ∧ Below w1.heap.size w1 w') :
    Calls Tryd.prog 6 #[.agg #[.slice (some ⟨b, o, none⟩) n cap]] w fun e w' => ∃ v, e = .returned v ∧ RRow w' w.heap.size v (ofFrom [] ns) ∧ Below w.heap.size w w' := by
  have mixed : Tryd.prog.follows .mixedOrders = true := by kernel_rfl
  have HC' : Hid _ := HC
  have HN : Hid (ns.length = n) := hn
  have HCK : Hid _ := hCk
  clear HC hn hCk
  obtain ⟨i0, hi0, hz0, hz1, hz2⟩ := info_parts infoRf
  have HI : Hid _ := hi0
  have HZ0 : Hid _ := hz0
  have HZ1 : Hid _ := hz1
  have HZ2 : Hid _ := hz2
  clear hi0 hz0 hz1 hz2
  go_enter Tryd.func6, Tryd.ntmps6
  go_wp2_with (go_at_call 12; refine (HCK.out _ (by with_reducible (repeat' first | assumption | exact Below.refl _ _ | refine Below.drew ?_ | refine bdrewN ?_ _ | refine Below.setCell ?_ (by first | exact Nat.le_refl _ | (simp; done) | (simp; omega) | omega) _ | refine Below.alloc ?_ (by first | exact Nat.le_refl _ | (simp; done) | (simp; omega) | omega) _))).mono ?_; rintro e w1 ⟨rfl, hb⟩; have hB1 : Below w.heap.size w w1 := bup (by with_reducible (repeat' first | assumption | exact Below.refl _ _ | refine Below.drew ?_ | refine bdrewN ?_ _ | refine Below.setCell ?_ (by first | exact Nat.le_refl _ | (simp; done) | (simp; omega) | omega) _ | refine Below.alloc ?_ (by first | exact Nat.le_refl _ | (simp; done) | (simp; omega) | omega) _)) hb; have o1 : Own w1 (w.heap.size) #[.slice (some ⟨b, o, none⟩) n cap] := Own.keep (by with_reducible (repeat' first | assumption | refine Own.drew ?_ | refine Own.drewN ?_ _ | (refine Own.at ?_; first | rfl | (simp; done)) | refine Own.past ?_ _ | refine Own.aside ?_ (by first | (simp; done) | (simp; omega) | omega) _)) hb; have c1 := o1.cell; have f1 := o1.fro; have l1 := o1.lt)
  obtain ⟨B, hBB⟩ : ∃ B, w1.heap.size = B := ⟨_, rfl⟩
  have hz1 := hB1.size
  rw [hBB] at hz1 l1
  go_loopw [4, 5] (fun lv v w' => ∃ (i : Nat) (acc : List Rf), v = .int .i64 i ∧ i ≤ n ∧ Hid (ofFrom acc (ns.drop i) = ofFrom [] ns) ∧ RRow w' B lv acc ∧ Below w.heap.size w w' ∧ acc.length ≤ i ∧ B ≤ w'.heap.size ∧ Own w' w.heap.size #[.slice (some ⟨b, o, none⟩) n cap]) (fun _ v _ => n - (intOf v).toNat)
  case atStart => exact ⟨0, [], rfl, by omega, rfl, Row.nil _ _, by with_reducible (repeat' first | assumption | exact Below.refl _ _ | refine Below.drew ?_ | refine bdrewN ?_ _ | refine Below.setCell ?_ (by first | exact Nat.le_refl _ | (simp; done) | (simp; omega) | omega) _ | refine Below.alloc ?_ (by first | exact Nat.le_refl _ | (simp; done) | (simp; omega) | omega) _), Nat.le_refl _, by omega, by with_reducible (repeat' first | assumption | refine Own.drew ?_ | refine Own.drewN ?_ _ | (refine Own.at ?_; first | rfl | (simp; done)) | refine Own.past ?_ _ | refine Own.aside ?_ (by first | (simp; done) | (simp; omega) | omega) _)⟩
  case round =>
    obtain ⟨i, acc, rfl, hi, hof, hrow, hB, hal, hBs, o0⟩ := hrel
    obtain ⟨tp, tc, rfl, htc, htm⟩ := hrow.slice
    have z := hB.size
    have c0 := o0.cell
    have f0 := o0.fro
    have l0 := o0.lt
    by_cases hlt : i < n
    · have hlt' : (i : Int) < n := by omega
      have hti : ns[i]? = some (ns[i]'(by rw [HN.out]; exact hlt)) := List.getElem?_eq_getElem _
      have cx := fun j hj => (show wr.cell? ⟨b, o + i * 15 + j, none⟩ = _ from (hB.cell (p := ⟨b, o + i * 15 + j, none⟩) hlb).trans (HC'.out i _ hti j hj))
      have HTI : Hid _ := hti
      revert cx HTI
      generalize (ns[i]'(by rw [HN.out]; exact hlt)) = nd
      intro cx HTI
      clear hti
      have x0 : wr.cell? ⟨b, o + i * 15, none⟩ = some (.int .i64 nd.kind) := cx 0 (by decide)
      have x1 : wr.cell? ⟨b, o + i * 15 + 1, none⟩ = some (.int .i64 nd.tag) := cx 1 (by decide)
      have x2 : wr.cell? ⟨b, o + i * 15 + 2, none⟩ = some (.int .i64 nd.num) := cx 2 (by decide)
      have x3 : wr.cell? ⟨b, o + i * 15 + 3, none⟩ = some (.string nd.str) := cx 3 (by decide)
      have x4 : wr.cell? ⟨b, o + i * 15 + 4, none⟩ = some (.bool nd.is) := cx 4 (by decide)
      have x5 : wr.cell? ⟨b, o + i * 15 + 5, none⟩ = some (.int .i64 nd.code) := cx 5 (by decide)
      have x6 : wr.cell? ⟨b, o + i * 15 + 6, none⟩ = some (.int .i64 nd.row) := cx 6 (by decide)
      have x7 : wr.cell? ⟨b, o + i * 15 + 7, none⟩ = some (.int .i64 nd.col) := cx 7 (by decide)
      have x8 : wr.cell? ⟨b, o + i * 15 + 8, none⟩ = some (.int .i64 nd.top) := cx 8 (by decide)
      have x9 : wr.cell? ⟨b, o + i * 15 + 9, none⟩ = some (.int .i64 nd.left) := cx 9 (by decide)
      have x10 : wr.cell? ⟨b, o + i * 15 + 10, none⟩ = some (.int .i64 nd.bot) := cx 10 (by decide)
      have x11 : wr.cell? ⟨b, o + i * 15 + 11, none⟩ = some (.int .i64 nd.right) := cx 11 (by decide)
      have x12 : wr.cell? ⟨b, o + i * 15 + 12, none⟩ = some (.int .i64 nd.op) := cx 12 (by decide)
      have x13 : wr.cell? ⟨b, o + i * 15 + 13, none⟩ = some (.string nd.name) := cx 13 (by decide)
      have x14 : wr.cell? ⟨b, o + i * 15 + 14, none⟩ = some (.int .i64 nd.args) := cx 14 (by decide)
      clear cx
      have HRF : Hid (∀ w, Calls Tryd.prog 13 #[.agg #[.int .i64 nd.kind, .int .i64 nd.tag, .int .i64 nd.num, .string nd.str, .bool nd.is, .int .i64 nd.code, .int .i64 nd.row, .int .i64 nd.col, .int .i64 nd.top, .int .i64 nd.left, .int .i64 nd.bot, .int .i64 nd.right, .int .i64 nd.op, .string nd.name, .int .i64 nd.args]] w fun e w' => e = .returned (refOut (refN nd)) ∧ Below w.heap.size w w') := fun w => rref_any nd w
      obtain ⟨is0, r, hR, hS⟩ := ref_two nd acc
      have HR : Hid (refOut (refN nd) = .tuple #[.agg r.cells, .bool is0]) := hR
      have HO : Hid (ofFrom (if (is0 && !(acc.any (fun x => sameRf x r))) = true then acc ++ [r] else acc) (ns.drop (i + 1)) = ofFrom [] ns) := by show _ = _; rw [← hof.out, ofFrom_at HTI.out, hS]
      clear hR hS
      go_wp2_with (go_at_call 13; refine (HRF.out _).mono ?_; rw [HR.out]; dsimp only [Rf.cells]; rintro e w2 ⟨rfl, hb2⟩; have hB2 : Below w.heap.size w w2 := bup (by with_reducible (repeat' first | assumption | exact Below.refl _ _ | refine Below.drew ?_ | refine bdrewN ?_ _ | refine Below.setCell ?_ (by first | exact Nat.le_refl _ | (simp; done) | (simp; omega) | omega) _ | refine Below.alloc ?_ (by first | exact Nat.le_refl _ | (simp; done) | (simp; omega) | omega) _)) hb2; have o2 : Own w2 (w.heap.size) #[.slice (some ⟨b, o, none⟩) n cap] := Own.keep (by with_reducible (repeat' first | assumption | refine Own.drew ?_ | refine Own.drewN ?_ _ | (refine Own.at ?_; first | rfl | (simp; done)) | refine Own.past ?_ _ | refine Own.aside ?_ (by first | (simp; done) | (simp; omega) | omega) _)) hb2; have hr2 : RRow w2 B (.slice tp acc.length tc) acc := Row.keep (by with_reducible (repeat' first | assumption | refine Row.drew ?_ | refine Row.drewN ?_ _ | refine Row.past ?_ _ | refine Row.aside ?_ _ (by intro g' hg'; have hq := hrlt g' hg'; simp; omega))) hb2; have c2 := o2.cell; have l2 := o2.lt; have z2 := hB2.size; have zz2 := hb2.size; have hrlt : ∀ g', (Value.slice tp acc.length tc).ownBlock = some g' → g' < w2.heap.size := fun g' hg' => (Row.lt hr2 g' hg').2)
      go_loopw [7, 8] (fun a v w' => ∃ (k : Nat), v = .int .i64 k ∧ k ≤ acc.length ∧ a = .bool (is0 && !((acc.take k).any (fun x => sameRf x r))) ∧ RRow w' B (.slice tp acc.length tc) acc ∧ Below w.heap.size w w' ∧ B ≤ w'.heap.size ∧ Own w' w.heap.size #[.slice (some ⟨b, o, none⟩) n cap] ∧ Own w' w2.heap.size #[.bool r.many, .int .i64 r.top, .int .i64 r.left, .int .i64 r.bot, .int .i64 r.right]) (fun _ v _ => acc.length - (intOf v).toNat)
      case atStart => exact ⟨0, rfl, by omega, by simp, by with_reducible (repeat' first | assumption | refine Row.drew ?_ | refine Row.drewN ?_ _ | refine Row.past ?_ _ | refine Row.aside ?_ _ (by intro g' hg'; have hq := hrlt g' hg'; simp; omega)), by with_reducible (repeat' first | assumption | exact Below.refl _ _ | refine Below.drew ?_ | refine bdrewN ?_ _ | refine Below.setCell ?_ (by first | exact Nat.le_refl _ | (simp; done) | (simp; omega) | omega) _ | refine Below.alloc ?_ (by first | exact Nat.le_refl _ | (simp; done) | (simp; omega) | omega) _), by simp; omega, by with_reducible (repeat' first | assumption | refine Own.drew ?_ | refine Own.drewN ?_ _ | (refine Own.at ?_; first | rfl | (simp; done)) | refine Own.past ?_ _ | refine Own.aside ?_ (by first | (simp; done) | (simp; omega) | omega) _), by with_reducible (repeat' first | assumption | refine Own.drew ?_ | refine Own.drewN ?_ _ | (refine Own.at ?_; first | rfl | (simp; done)) | refine Own.past ?_ _ | refine Own.aside ?_ (by first | (simp; done) | (simp; omega) | omega) _)⟩
      case round =>
        obtain ⟨k, rfl, hk, rfl, hr, hBk, hBs2, p0, p1⟩ := hrel
        have d0 := p0.cell
        have d1 := p1.cell
        have m0 := p0.lt
        have m1 := p1.lt
        have zk := hBk.size
        by_cases hkl : k < acc.length
        · have hkl' : (k : Int) < acc.length := by omega
          rcases Row.two Rf.cells_size hr with ⟨e0, e1⟩ | ⟨g, cap2, e0, hg1, hg2, hg3, hg4, hg5, hg6⟩
          · rw [e1] at hkl; simp at hkl
          have e2 : tp = some ⟨g, 0, none⟩ := by injection e0
          subst e2
          have hki : acc[k]? = some acc[k] := List.getElem?_eq_getElem hkl
          have cy := fun j hj => hg5 k _ hki j hj
          have HKI : Hid _ := hki
          revert cy HKI
          generalize acc[k] = x
          intro cy HKI
          clear hki hg5
          have y0 : wr.cell? ⟨g, k * 5, none⟩ = some (.bool x.many) := cy 0 (by decide)
          have y1 : wr.cell? ⟨g, k * 5 + 1, none⟩ = some (.int .i64 x.top) := cy 1 (by decide)
          have y2 : wr.cell? ⟨g, k * 5 + 2, none⟩ = some (.int .i64 x.left) := cy 2 (by decide)
          have y3 : wr.cell? ⟨g, k * 5 + 3, none⟩ = some (.int .i64 x.bot) := cy 3 (by decide)
          have y4 : wr.cell? ⟨g, k * 5 + 4, none⟩ = some (.int .i64 x.right) := cy 4 (by decide)
          clear cy
          have hne := eqRf x r
          cases hs : sameRf x r
          · rw [hs] at hne
            have HS : Hid _ := any_n HKI.out hs
            clear hs
            go_wp2
            go_quiet (fail)
            go_wp2
            exact ⟨⟨k + 1, by go_num, by omega, by rw [HS.out], by with_reducible (repeat' first | assumption | refine Row.drew ?_ | refine Row.drewN ?_ _ | refine Row.past ?_ _ | refine Row.aside ?_ _ (by intro g' hg'; have hq := hrlt g' hg'; simp; omega)), by with_reducible (repeat' first | assumption | exact Below.refl _ _ | refine Below.drew ?_ | refine bdrewN ?_ _ | refine Below.setCell ?_ (by first | exact Nat.le_refl _ | (simp; done) | (simp; omega) | omega) _ | refine Below.alloc ?_ (by first | exact Nat.le_refl _ | (simp; done) | (simp; omega) | omega) _), hBs2, by with_reducible (repeat' first | assumption | refine Own.drew ?_ | refine Own.drewN ?_ _ | (refine Own.at ?_; first | rfl | (simp; done)) | refine Own.past ?_ _ | refine Own.aside ?_ (by first | (simp; done) | (simp; omega) | omega) _), by with_reducible (repeat' first | assumption | refine Own.drew ?_ | refine Own.drewN ?_ _ | (refine Own.at ?_; first | rfl | (simp; done)) | refine Own.past ?_ _ | refine Own.aside ?_ (by first | (simp; done) | (simp; omega) | omega) _)⟩, by simp [intOf]; omega⟩
          · rw [hs] at hne
            have HS : Hid _ := any_y HKI.out hs is0
            clear hs
            go_wp2
            go_quiet (fail)
            go_wp2
            exact ⟨⟨k + 1, by go_num, by omega, by rw [← HS.out], by with_reducible (repeat' first | assumption | refine Row.drew ?_ | refine Row.drewN ?_ _ | refine Row.past ?_ _ | refine Row.aside ?_ _ (by intro g' hg'; have hq := hrlt g' hg'; simp; omega)), by with_reducible (repeat' first | assumption | exact Below.refl _ _ | refine Below.drew ?_ | refine bdrewN ?_ _ | refine Below.setCell ?_ (by first | exact Nat.le_refl _ | (simp; done) | (simp; omega) | omega) _ | refine Below.alloc ?_ (by first | exact Nat.le_refl _ | (simp; done) | (simp; omega) | omega) _), hBs2, by with_reducible (repeat' first | assumption | refine Own.drew ?_ | refine Own.drewN ?_ _ | (refine Own.at ?_; first | rfl | (simp; done)) | refine Own.past ?_ _ | refine Own.aside ?_ (by first | (simp; done) | (simp; omega) | omega) _), by with_reducible (repeat' first | assumption | refine Own.drew ?_ | refine Own.drewN ?_ _ | (refine Own.at ?_; first | rfl | (simp; done)) | refine Own.past ?_ _ | refine Own.aside ?_ (by first | (simp; done) | (simp; omega) | omega) _)⟩, by simp [intOf]; omega⟩
        · have hkl' : ¬ (k : Int) < acc.length := by omega
          have ek : acc.take k = acc := List.take_of_length_le (by omega)
          rw [ek]
          cases hb : (is0 && !(acc.any (fun x => sameRf x r)))
          · have HO2 : Hid (ofFrom acc (ns.drop (i + 1)) = ofFrom [] ns) := by have h := HO.out; rw [hb] at h; exact h
            clear hb
            go_wp2
            exact ⟨⟨i + 1, acc, by go_num, by omega, HO2, by with_reducible (repeat' first | assumption | refine Row.drew ?_ | refine Row.drewN ?_ _ | refine Row.past ?_ _ | refine Row.aside ?_ _ (by intro g' hg'; have hq := hrlt g' hg'; simp; omega)), by with_reducible (repeat' first | assumption | exact Below.refl _ _ | refine Below.drew ?_ | refine bdrewN ?_ _ | refine Below.setCell ?_ (by first | exact Nat.le_refl _ | (simp; done) | (simp; omega) | omega) _ | refine Below.alloc ?_ (by first | exact Nat.le_refl _ | (simp; done) | (simp; omega) | omega) _), by omega, hBs2, by with_reducible (repeat' first | assumption | refine Own.drew ?_ | refine Own.drewN ?_ _ | (refine Own.at ?_; first | rfl | (simp; done)) | refine Own.past ?_ _ | refine Own.aside ?_ (by first | (simp; done) | (simp; omega) | omega) _)⟩, by simp [intOf]; omega⟩
          · have HO2 : Hid (ofFrom (acc ++ [r]) (ns.drop (i + 1)) = ofFrom [] ns) := by have h := HO.out; rw [hb] at h; exact h
            clear hb
            go_wp2_with (at_builtin; refine wpList_append_lies _ rfl _ _ 26 rfl B 31 i0 _ 5 40 Tryd.underlying26 HI.out HZ0.out HZ1.out HZ2.out rfl (by decide) _ acc.length (flatC Rf.cells acc) rfl (World.ownsRow.alloc hr _) ⟨wr.heap.size, 0, none⟩ 1 1 r.cells.toList rfl rfl (news_plain wr r.cells _) r.one (by decide) (by unfold maxLen; omega) (by omega) (by simp; omega) (wr.heap.size + 1) (by simp) ?_; intro g5 cap5 w5 hown5 hgrow5 hat5 hlt5)
            have hne5 : ∀ g', (Value.slice tp acc.length tc).ownBlock = some g' → B ≤ g' := fun g' hg' => (Row.lt hr g' hg').1
            have q1 := app_rowB (c := Rf.cells) (l := acc) (t := r) rfl hown5
            have q3 : Below w.heap.size w w5 := Below.grown (by with_reducible (repeat' first | assumption | exact Below.refl _ _ | refine Below.drew ?_ | refine bdrewN ?_ _ | refine Below.setCell ?_ (by first | exact Nat.le_refl _ | (simp; done) | (simp; omega) | omega) _ | refine Below.alloc ?_ (by first | exact Nat.le_refl _ | (simp; done) | (simp; omega) | omega) _)) hgrow5 (by simp; omega) (by intro k hk; have := hne5 k hk; omega)
            have q4 : Own w5 w.heap.size #[.slice (some ⟨b, o, none⟩) n cap] := own_grown (by with_reducible (repeat' first | assumption | refine Own.drew ?_ | refine Own.drewN ?_ _ | (refine Own.at ?_; first | rfl | (simp; done)) | refine Own.past ?_ _ | refine Own.aside ?_ (by first | (simp; done) | (simp; omega) | omega) _)) hgrow5 (by intro g' hg'; have := hne5 g' hg'; omega)
            have q5 := Row.lt q1 g5 rfl
            exact ⟨⟨i + 1, acc ++ [r], by go_num, by omega, HO2, q1, q3, by simp; omega, by omega, q4⟩, by simp [intOf]; omega⟩
    · have hlt' : ¬ (i : Int) < n := by omega
      have HE : Hid (acc = ofFrom [] ns) := by
        show _ = _
        have h := hof.out
        rw [List.drop_of_length_le (by rw [HN.out]; omega)] at h
        exact h
      go_wp2
      go_ret
      exact ⟨_, rfl, by rw [← HE.out]; exact hrow.mono (by omega), hB⟩
set_option maxHeartbeats 1000000 in
theorem rof_n (w : World) (p : Option Addr) (n cap : Nat)
    (hCk : ∀ w1, Below w.heap.size w w1 → Calls Tryd.prog 12 #[.agg #[.slice p n cap]] w1 fun e w' => e = .returned (.int .i64 20) ∧ Below w1.heap.size w1 w') :
    Calls Tryd.prog 6 #[.agg #[.slice p n cap]] w fun e w' => ∃ v, e = .returned v ∧ RRow w' w.heap.size v [] ∧ Below w.heap.size w w' := by
  have HCK : Hid _ := hCk
  clear hCk
  go_enter Tryd.func6, Tryd.ntmps6
  go_wp2_with (go_at_call 12; refine (HCK.out _ (by with_reducible (repeat' first | assumption | exact Below.refl _ _ | refine Below.drew ?_ | refine bdrewN ?_ _ | refine Below.setCell ?_ (by first | exact Nat.le_refl _ | (simp; done) | (simp; omega) | omega) _ | refine Below.alloc ?_ (by first | exact Nat.le_refl _ | (simp; done) | (simp; omega) | omega) _))).mono ?_; rintro e w1 ⟨rfl, hb⟩; have hB1 : Below w.heap.size w w1 := bup (by with_reducible (repeat' first | assumption | exact Below.refl _ _ | refine Below.drew ?_ | refine bdrewN ?_ _ | refine Below.setCell ?_ (by first | exact Nat.le_refl _ | (simp; done) | (simp; omega) | omega) _ | refine Below.alloc ?_ (by first | exact Nat.le_refl _ | (simp; done) | (simp; omega) | omega) _)) hb)
  go_ret
  exact ⟨_, rfl, Row.nil _ _, hB1⟩
theorem rof_any (w : World) (v : Value) (ns : List Nd) (hv : NV w v ns) (hwf : ∀ x ∈ ns, Vv.I64 x.num) : Calls Tryd.prog 6 #[.agg #[v]] w fun e w' => ∃ v, e = .returned v ∧ RRow w' w.heap.size v (ofN ns) ∧ Below w.heap.size w w' := by
  have hCk : ∀ w1, Below w.heap.size w w1 → Calls Tryd.prog 12 #[.agg #[v]] w1 fun e w' => e = .returned (.int .i64 (chkI ns)) ∧ Below w1.heap.size w1 w' := fun w1 h => rchk_any w1 v ns (hv.keep h) hwf
  obtain ⟨p, cap, rfl, hc, hf⟩ := hv
  unfold ofN
  rcases chkI_two ns with h | h
  · rw [if_pos h]
    rw [h] at hCk
    have hl := chk_len h
    obtain ⟨b, o, rfl, hlt, HC⟩ := hf hl.1
    exact rof_y w b o cap ns.length ns hlt HC rfl hc hl.1 hl.2 hCk
  · rw [if_neg (by omega)]
    rw [h] at hCk
    exact rof_n w p _ cap hCk
end Go.Proofs.YtekpmdpmcbjkkaaDoor
