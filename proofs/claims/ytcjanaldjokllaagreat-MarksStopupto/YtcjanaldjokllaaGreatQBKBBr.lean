/- The contracts of crowd.join and crowd.leave. · The contract of slices.BinarySearchFunc at a row, by how each stands to what is looked for. New memory alone is made. -/
import Derived.Test.YtcjanaldjokllaaGreatQBCBIs
import Derived.Test.YtcjanaldjokllaaGreatQBDsBGs
import Derived.Test.YtcjanaldjokllaaGreatQBPBOBBs
namespace Go.Proofs.YtcjanaldjokllaaGreat
open Go.RowKit
set_option linter.all false
theorem RowG.slice' {α : Type} {E : TypeId} {sz : Nat} {cs : α → List Value} {w : World} {base : Nat} {v : Value} {l : List α} (h : RowG E sz cs w base v l) : ∃ q n cp, v = .slice q n cp := by
  rcases h.two with ⟨rfl, _⟩ | ⟨g, cap, cur, rfl, _⟩ <;> exact ⟨_, _, _, rfl⟩
theorem set_same {A : Array Value} {j : Nat} {v : Value} (hj : A[j]? = some v) : A.setIfInBounds j v = A := by
  obtain ⟨h1, h2⟩ := Array.getElem?_eq_some_iff.1 hj
  apply Array.ext_getElem?
  intro o
  rw [Array.getElem?_setIfInBounds]
  by_cases q : j = o
  · subst q
    simp [h1, h2]
  · rw [if_neg q]
theorem flat_set : ∀ (l : List Seat) (i : Nat) (x : Seat) (m : Int), l[i]? = some x → flatG Seat.cs (l.set i ⟨x.g, m⟩) = (flatG Seat.cs l).set (i * 2 + 1) (.int .i64 m)
  | [], i, x, m, h => by simp at h
  | u :: t, 0, x, m, h => by
    simp at h; subst h
    rfl
  | u :: t, i + 1, x, m, h => by
    have ih := flat_set t i x m (by simpa using h)
    rw [List.set_cons_succ, flatG_cons, ih, flatG_cons, List.set_append_right _ _ (by rw [Seat.len]; omega), Seat.len, show (i + 1) * 2 + 1 - 2 = i * 2 + 1 by omega]
/-- A count is laid anew. -/
theorem RowS.put {w : World} {g n cap i : Nat} {l : List Seat} {x : Seat} (h : RowS w (.slice (some ⟨g, 0, none⟩) n cap) l) (hi : l[i]? = some x) (m : Int) : RowS (w.setCell ⟨g, i * 2 + 1, none⟩ (.int .i64 m)) (.slice (some ⟨g, 0, none⟩) n cap) (l.set i ⟨x.g, m⟩) := by
  rcases h.two with ⟨h, _⟩ | ⟨g', cap', cur, e, _, h1, h2, h3, h4, h5, h6⟩
  · cases h
  · simp only [Value.slice.injEq, Option.some.injEq, Addr.mk.injEq] at e
    obtain ⟨⟨rfl, _⟩, rfl, rfl⟩ := e
    have hil := (List.getElem?_eq_some_iff.1 hi).1
    rw [setCell_eq_setRow w g (i * 2 + 1) cur _ (0, 0) _ h2]
    refine RowG.mk Seat.len (by simp) (Nat.zero_le _) (setRow_heap w g cur _ _ _ h2) (by simpa using h3) h4 (by simp [h5]) ?_
    rw [List.length_set, flat_set l i x m hi, ← h6, Array.toList_setIfInBounds, List.take_set]
theorem RowS.count {w : World} {g n cap i : Nat} {l : List Seat} {x : Seat} (h : RowS w (.slice (some ⟨g, 0, none⟩) n cap) l) (hi : l[i]? = some x) : g < w.heap.size ∧ n = l.length ∧ i < n ∧ n ≤ cap ∧ w.cell? ⟨g, i * 2, none⟩ = some (.pointer (some ⟨x.g, 0, none⟩)) ∧ w.cell? ⟨g, i * 2 + 1, none⟩ = some (.int .i64 x.n) ∧ w.frozen? ⟨g, i * 2 + 1, none⟩ = false := by
  rcases h.two with ⟨h, _⟩ | ⟨g', cap', cur, e, _, h1, h2, h3, h4, h5, h6⟩
  · cases h
  · simp only [Value.slice.injEq, Option.some.injEq, Addr.mk.injEq] at e
    obtain ⟨⟨rfl, _⟩, rfl, rfl⟩ := e
    exact ⟨h1, rfl, (List.getElem?_eq_some_iff.1 hi).1, h3, row_cellsG Seat.len h2 h6 i x 0 _ hi rfl, row_cellsG Seat.len h2 h6 i x 1 _ hi rfl, fro_row h2⟩
/-- What a join, a leave, makes of a crowd. -/
def CrowdP (w : World) (N j : Nat) (A : Array Value) (v : Value) (l' : List Seat) (w' : World) : Prop := ∃ v', Own w' N (A.setIfInBounds j v') ∧ RowS w' v' l' ∧ (∀ b, v'.ownBlock = some b → v.ownBlock = some b ∨ w.heap.size ≤ b) ∧ Mut (fun b => b = N ∨ v.ownBlock = some b) w w'
set_option maxRecDepth 100000 in
set_option maxHeartbeats 4000000 in
theorem join_no (w : World) (D : Nat → Option Tag) (N j : Nat) (A : Array Value) (v : Value) (l : List Seat) (g : Nat) (r c : Int) (ho : Hid (Own w N A)) (hj : A[j]? = some v) (hv : Hid (RowS w v l)) (hng : v.ownBlock ≠ some N) (hl : l.length ≤ 4000000000000) (hS : Hid (MonoF (fC D r c) l)) (hD : Hid (SeesW w D l)) (hg : g < w.heap.size) (hg0 : w.cell? ⟨g, 0, none⟩ = some (.int .i64 r)) (hg1 : w.cell? ⟨g, 1, none⟩ = some (.int .i64 c)) (hh : hasF (fC D r c) l = false) :
    Calls Tryz.prog 72 #[.pointer (some ⟨N, j, none⟩), .pointer (some ⟨g, 0, none⟩)] w fun e w' => e = .returned (.tuple #[]) ∧ CrowdP w N j A v (loF (fC D r c) l ++ ⟨g, 1⟩ :: hiF (fC D r c) l) w' := by
  have mixed : Tryz.prog.follows .mixedOrders = true := by kernel_rfl
  have hjl := (Array.getElem?_eq_some_iff.1 hj).1
  have cN : w.cell? ⟨N, j, none⟩ = some v := (ho.out.cell j).trans hj
  have fN := ho.out.fro j
  have hNl := ho.out.lt
  obtain ⟨i, hi⟩ : ∃ i, i = idxF (fC D r c) l := ⟨_, rfl⟩
  have H : Hid (∀ W, Below w.heap.size w W → Calls Tryz.prog 92 #[v, .agg #[.int .i64 r, .int .i64 c]] W fun e w' => e = .returned (.tuple #[.int .i64 i, .bool false]) ∧ Below W.heap.size W w') := (show _ from fun W hb => by
    have := find_any W D v l r c (hv.out.keep hb) hl hS (hD.out.keep hb)
    rw [hh, ← hi] at this
    exact this)
  have HI : Hid (∀ W vb, Below w.heap.size w W → w.heap.size ≤ vb → W.heap[vb]? = some (.cells #[.pointer (some ⟨g, 0, none⟩), .int .i64 0] 147 (0, 0)) → Calls Tryz.prog 106 #[v, .int .i64 i, .slice (some ⟨vb, 0, none⟩) 1 1] W fun e w' => ∃ g1 n1 c1, e = .returned (.slice (some ⟨g1, 0, none⟩) n1 c1) ∧ Own w' N A ∧ g1 ≠ N ∧ g1 < w'.heap.size ∧ i < n1 ∧ n1 ≤ c1 ∧ w'.cell? ⟨g1, i * 2 + 1, none⟩ = some (.int .i64 0) ∧ w'.frozen? ⟨g1, i * 2 + 1, none⟩ = false ∧ CrowdP w N j A v (loF (fC D r c) l ++ ⟨g, 1⟩ :: hiF (fC D r c) l) ((w'.setCell ⟨N, j, none⟩ (.slice (some ⟨g1, 0, none⟩) n1 c1)).setCell ⟨g1, i * 2 + 1, none⟩ (.int .i64 1))) := (show _ from fun W vb hb hvb hx => by
    have hvW := hv.out.keep hb
    have hoW := ho.out.keep hb
    refine (ins_anys W v l i vb ⟨g, 0⟩ hvW (by rw [hi]; exact idxF_le l) hl hx (fun q => by have := (hv.out.lt _ q).2; omega)).mono ?_
    rintro e w' ⟨v', rfl, p1, p2, p3⟩
    rw [hi, take_idx hS.out, drop_idx hS.out, has_no hh] at p1
    have hgo : Own w' N A := hoW.mut p3 hng
    have hob : ∀ b, v'.ownBlock = some b → v.ownBlock = some b ∨ w.heap.size ≤ b := fun b q => by
      rcases p2 with p2 | ⟨b', p2, p4⟩
      · exact .inl (p2.symm.trans q)
      · rw [p2] at q; injection q with q; subst q; exact .inr (Nat.le_trans hb.size p4)
    rcases p1.two with ⟨rfl, q⟩ | ⟨g1, c1, cur, rfl, _⟩
    · simp at q
    · generalize hn1 : (loF (fC D r c) l ++ ⟨g, 0⟩ :: hiF (fC D r c) l).length = n1 at *
      have hxi : (loF (fC D r c) l ++ ⟨g, 0⟩ :: hiF (fC D r c) l)[i]? = some ⟨g, 0⟩ := by
        rw [hi]; unfold idxF; rw [List.getElem?_append_right (Nat.le_refl _), Nat.sub_self]; rfl
      have hne : g1 ≠ N := fun q => by
        rcases hob g1 rfl with s | s
        · exact hng (by rw [s, q])
        · omega
      obtain ⟨k1, k2, k3, k4, _, k5, k6⟩ := RowS.count p1 hxi
      refine ⟨g1, n1, c1, rfl, hgo, hne, k1, k3, k4, k5, k6, _, (own_put' hgo hjl).aside _ (fun q => hne q.symm), ?_, hob, ?_⟩
      · have hr := RowS.put (RowG.aside p1 (a := ⟨N, j, none⟩) (.slice (some ⟨g1, 0, none⟩) n1 c1) (fun b q => by injection q with q; subst q; exact hne)) hxi 1
        have e : (loF (fC D r c) l ++ ⟨g, 0⟩ :: hiF (fC D r c) l).set i ⟨g, 1⟩ = loF (fC D r c) l ++ ⟨g, 1⟩ :: hiF (fC D r c) l := by
          rw [hi]; unfold idxF; rw [List.set_append_right _ _ (Nat.le_refl _), Nat.sub_self]; rfl
        rw [← e]
        exact hr
      · refine Mut.set (Mut.set (Mut.call (Mut.of_below hb) p3 (fun b q => .inl (.inr q))) (.inl (.inl rfl)) _) ?_ _
        rcases hob g1 rfl with s | s
        · exact .inl (.inr s)
        · exact .inr s)
  revert HI
  generalize CrowdP w N j A v (loF (fC D r c) l ++ ⟨g, 1⟩ :: hiF (fC D r c) l) = PP
  intro HI
  clear hh hS hv ho hng hD hi
  go_enter Tryz.func72, Tryz.ntmps72
  go_wp2
  go_region_held3 (fun w' => w'.cell? ⟨N, j, none⟩ = some v ∧ w'.cell? ⟨g, 0, none⟩ = some (.int .i64 r) ∧ w'.cell? ⟨g, 1, none⟩ = some (.int .i64 c)) ((repeat' apply And.intro) <;> (first | (go_keep; done) | (go_simp; done))) ((go_at_call 92; refine (H.out _ zqb).mono ?_; rintro e wa ⟨rfl, hbwa⟩; have hBwa : Below w.heap.size w wa := bup zqb hbwa; have za := hBwa.size; have cNa := (hBwa.cell (p := ⟨N, j, none⟩) hNl).trans cN; have fNa := (hBwa.frozen (p := ⟨N, j, none⟩) hNl).trans fN; have x0 := (hBwa.cell (p := ⟨g, 0, none⟩) hg).trans hg0; have x1 := (hBwa.cell (p := ⟨g, 1, none⟩) hg).trans hg1; have lNa := Nat.lt_of_lt_of_le hNl za))
  go_wp2_with (go_at_call 106; refine (HI.out _ _ zqb (by first | omega | (simp; omega)) (by exact heap_alloc_new _ _)).mono ?_; rintro e wb ⟨g1, n1, c1, rfl, og, hne, hg1l, hin, hnc, y0, f0, hP⟩; have cg := og.cell j; have fg := og.fro j; have lg := og.lt; have HP : Hid _ := hP; clear hP; have hin' : (i : Int) < n1 := (by omega); have hne' : N ≠ g1 := fun q => hne q.symm; clear og; rw [hj] at cg)
  go_end0
  exact ⟨rfl, HP.out⟩
theorem set_has {D : Nat → Option Tag} {r c : Int} {l : List Seat} {x : Seat} (hS : MonoF (fC D r c) l) (hx : l[idxF (fC D r c) l]? = some x) (h0 : fC D r c x = 0) (y : Seat) : l.set (idxF (fC D r c) l) y = loF (fC D r c) l ++ y :: hiF (fC D r c) l := by
  have hh : hasF (fC D r c) l = true := by rw [idx_has hS hx]; exact decide_eq_true h0
  obtain ⟨hlt, hx2⟩ := List.getElem?_eq_some_iff.1 hx
  have e := drop_has hS hh
  rw [take_idx hS] at e
  have e2 : l.drop (idxF (fC D r c) l + 1) = hiF (fC D r c) l := List.append_cancel_left e
  rw [List.set_eq_take_append_cons_drop, if_pos hlt, take_idx hS, e2]
set_option maxRecDepth 100000 in
set_option maxHeartbeats 4000000 in
theorem join_yes (w : World) (D : Nat → Option Tag) (N j : Nat) (A : Array Value) (v : Value) (l : List Seat) (g : Nat) (r c : Int) (ho : Hid (Own w N A)) (hj : A[j]? = some v) (hv : Hid (RowS w v l)) (hng : v.ownBlock ≠ some N) (hl : l.length ≤ 4000000000000) (hS : Hid (MonoF (fC D r c) l)) (hD : Hid (SeesW w D l)) (hg : g < w.heap.size) (hg0 : w.cell? ⟨g, 0, none⟩ = some (.int .i64 r)) (hg1 : w.cell? ⟨g, 1, none⟩ = some (.int .i64 c)) (x : Seat) (i : Nat) (hi : i = idxF (fC D r c) l) (hx : l[i]? = some x) (h0 : fC D r c x = 0) (hn : 0 ≤ x.n ∧ x.n ≤ 4000000000000) :
    Calls Tryz.prog 72 #[.pointer (some ⟨N, j, none⟩), .pointer (some ⟨g, 0, none⟩)] w fun e w' => e = .returned (.tuple #[]) ∧ CrowdP w N j A v (loF (fC D r c) l ++ ⟨x.g, x.n + 1⟩ :: hiF (fC D r c) l) w' := by
  have mixed : Tryz.prog.follows .mixedOrders = true := by kernel_rfl
  have hjl := (Array.getElem?_eq_some_iff.1 hj).1
  have cN : w.cell? ⟨N, j, none⟩ = some v := (ho.out.cell j).trans hj
  have fN := ho.out.fro j
  have hNl := ho.out.lt
  have hh : hasF (fC D r c) l = true := by rw [idx_has hS.out (by rw [← hi]; exact hx)]; exact decide_eq_true h0
  have H : Hid (∀ W, Below w.heap.size w W → Calls Tryz.prog 92 #[v, .agg #[.int .i64 r, .int .i64 c]] W fun e w' => e = .returned (.tuple #[.int .i64 i, .bool true]) ∧ Below W.heap.size W w') := (show _ from fun W hb => by
    have := find_any W D v l r c (hv.out.keep hb) hl hS (hD.out.keep hb)
    rw [hh, ← hi] at this
    exact this)
  rcases hv.out.two with ⟨rfl, rfl⟩ | ⟨g1, c1, cur, rfl, _⟩
  · simp at hx
  · obtain ⟨k1, k2, k3, k4, _, k5, k6⟩ := RowS.count hv.out hx
    have hne : g1 ≠ N := fun q => hng (by rw [q]; rfl)
    have HP : Hid (∀ W, Below w.heap.size w W → CrowdP w N j A (.slice (some ⟨g1, 0, none⟩) l.length c1) (loF (fC D r c) l ++ ⟨x.g, x.n + 1⟩ :: hiF (fC D r c) l) (W.setCell ⟨g1, i * 2 + 1, none⟩ (.int .i64 (x.n + 1)))) := (show _ from fun W hb => by
      refine ⟨.slice (some ⟨g1, 0, none⟩) l.length c1, ?_, ?_, fun b q => .inl q, Mut.set (Mut.of_below hb) (.inl (.inr rfl)) _⟩
      · have e : A.setIfInBounds j (.slice (some ⟨g1, 0, none⟩) l.length c1) = A := set_same hj
        rw [e]
        exact (ho.out.keep hb).aside _ (fun q => hne q.symm)
      · rw [hi] at hx ⊢
        rw [← set_has hS.out hx h0]
        exact RowS.put (hv.out.keep hb) hx (x.n + 1))
    generalize loF (fC D r c) l ++ ⟨x.g, x.n + 1⟩ :: hiF (fC D r c) l = L at *
    have hw : IntKind.i64.wrap (x.n + 1) = x.n + 1 := by rw [IntKind.wrap_i64]; omega
    obtain ⟨m, hm⟩ : ∃ m, m = x.n := ⟨_, rfl⟩
    rw [← hm] at k5 hw hn HP
    clear hm hh hS hv ho hng hD hi hx h0
    generalize l.length = n1 at *
    have k3' : (i : Int) < n1 := by omega
    go_enter Tryz.func72, Tryz.ntmps72
    go_wp2
    go_region_held3 (fun w' => w'.cell? ⟨N, j, none⟩ = some (.slice (some ⟨g1, 0, none⟩) n1 c1) ∧ w'.cell? ⟨g, 0, none⟩ = some (.int .i64 r) ∧ w'.cell? ⟨g, 1, none⟩ = some (.int .i64 c)) ((repeat' apply And.intro) <;> (first | (go_keep; done) | (go_simp; done))) ((go_at_call 92; refine (H.out _ zqb).mono ?_; rintro e wa ⟨rfl, hbwa⟩; have hBwa : Below w.heap.size w wa := bup zqb hbwa; have za := hBwa.size; have cNa := (hBwa.cell (p := ⟨N, j, none⟩) hNl).trans cN; have fNa := (hBwa.frozen (p := ⟨N, j, none⟩) hNl).trans fN; have x0 := (hBwa.cell (p := ⟨g, 0, none⟩) hg).trans hg0; have x1 := (hBwa.cell (p := ⟨g, 1, none⟩) hg).trans hg1; have lNa := Nat.lt_of_lt_of_le hNl za))
    have y0 := (hBwa.cell (p := ⟨g1, i * 2 + 1, none⟩) k1).trans k5
    have f0 := (hBwa.frozen (p := ⟨g1, i * 2 + 1, none⟩) k1).trans k6
    go_wp2
    go_end0
    exact ⟨rfl, HP.out _ hBwa⟩
set_option maxRecDepth 100000 in
set_option maxHeartbeats 4000000 in
theorem leave_more (w : World) (D : Nat → Option Tag) (N j : Nat) (A : Array Value) (v : Value) (l : List Seat) (g : Nat) (r c : Int) (ho : Hid (Own w N A)) (hj : A[j]? = some v) (hv : Hid (RowS w v l)) (hng : v.ownBlock ≠ some N) (hl : l.length ≤ 4000000000000) (hS : Hid (MonoF (fC D r c) l)) (hD : Hid (SeesW w D l)) (hg : g < w.heap.size) (hg0 : w.cell? ⟨g, 0, none⟩ = some (.int .i64 r)) (hg1 : w.cell? ⟨g, 1, none⟩ = some (.int .i64 c)) (x : Seat) (i : Nat) (hi : i = idxF (fC D r c) l) (hx : l[i]? = some x) (h0 : fC D r c x = 0) (hn : 1 < x.n ∧ x.n ≤ 4000000000000) :
    Calls Tryz.prog 63 #[.pointer (some ⟨N, j, none⟩), .pointer (some ⟨g, 0, none⟩)] w fun e w' => e = .returned (.tuple #[]) ∧ CrowdP w N j A v (loF (fC D r c) l ++ ⟨x.g, x.n - 1⟩ :: hiF (fC D r c) l) w' := by
  have mixed : Tryz.prog.follows .mixedOrders = true := by kernel_rfl
  have cN : w.cell? ⟨N, j, none⟩ = some v := (ho.out.cell j).trans hj
  have fN := ho.out.fro j
  have hNl := ho.out.lt
  have hh : hasF (fC D r c) l = true := by rw [idx_has hS.out (by rw [← hi]; exact hx)]; exact decide_eq_true h0
  have H : Hid (∀ W, Below w.heap.size w W → Calls Tryz.prog 92 #[v, .agg #[.int .i64 r, .int .i64 c]] W fun e w' => e = .returned (.tuple #[.int .i64 i, .bool true]) ∧ Below W.heap.size W w') := (show _ from fun W hb => by
    have := find_any W D v l r c (hv.out.keep hb) hl hS (hD.out.keep hb)
    rw [hh, ← hi] at this
    exact this)
  rcases hv.out.two with ⟨rfl, rfl⟩ | ⟨g1, c1, cur, rfl, _⟩
  · simp at hx
  · obtain ⟨k1, k2, k3, k4, _, k5, k6⟩ := RowS.count hv.out hx
    have hne : g1 ≠ N := fun q => hng (by rw [q]; rfl)
    have HP : Hid (∀ W, Below w.heap.size w W → CrowdP w N j A (.slice (some ⟨g1, 0, none⟩) l.length c1) (loF (fC D r c) l ++ ⟨x.g, x.n - 1⟩ :: hiF (fC D r c) l) (W.setCell ⟨g1, i * 2 + 1, none⟩ (.int .i64 (x.n - 1)))) := (show _ from fun W hb => by
      refine ⟨.slice (some ⟨g1, 0, none⟩) l.length c1, ?_, ?_, fun b q => .inl q, Mut.set (Mut.of_below hb) (.inl (.inr rfl)) _⟩
      · rw [set_same hj]
        exact (ho.out.keep hb).aside _ (fun q => hne q.symm)
      · rw [hi] at hx ⊢
        rw [← set_has hS.out hx h0]
        exact RowS.put (hv.out.keep hb) hx (x.n - 1))
    generalize loF (fC D r c) l ++ ⟨x.g, x.n - 1⟩ :: hiF (fC D r c) l = L at *
    have hw : IntKind.i64.wrap (x.n - 1) = x.n - 1 := by rw [IntKind.wrap_i64]; omega
    obtain ⟨m, hm⟩ : ∃ m, m = x.n - 1 := ⟨_, rfl⟩
    have hm0 : (m == 0) = false := by simp; omega
    have hmx : m = x.n - 1 := hm
    rw [← hm] at HP hw
    obtain ⟨q, hq⟩ : ∃ q, q = x.n := ⟨_, rfl⟩
    rw [← hq] at k5
    have hqm : q - 1 = m := by omega
    clear hq hm hmx hh hS hv ho hng hD hi hx h0 hn
    generalize l.length = n1 at *
    have k3' : (i : Int) < n1 := by omega
    have hne' : N ≠ g1 := fun q => hne q.symm
    go_enter Tryz.func63, Tryz.ntmps63
    go_wp2
    go_region_held3 (fun w' => w'.cell? ⟨N, j, none⟩ = some (.slice (some ⟨g1, 0, none⟩) n1 c1) ∧ w'.cell? ⟨g, 0, none⟩ = some (.int .i64 r) ∧ w'.cell? ⟨g, 1, none⟩ = some (.int .i64 c)) ((repeat' apply And.intro) <;> (first | (go_keep; done) | (go_simp; done))) ((go_at_call 92; refine (H.out _ zqb).mono ?_; rintro e wa ⟨rfl, hbwa⟩; have hBwa : Below w.heap.size w wa := bup zqb hbwa; have za := hBwa.size; have cNa := (hBwa.cell (p := ⟨N, j, none⟩) hNl).trans cN; have fNa := (hBwa.frozen (p := ⟨N, j, none⟩) hNl).trans fN; have x0 := (hBwa.cell (p := ⟨g, 0, none⟩) hg).trans hg0; have x1 := (hBwa.cell (p := ⟨g, 1, none⟩) hg).trans hg1; have lNa := Nat.lt_of_lt_of_le hNl za))
    have y0 := (hBwa.cell (p := ⟨g1, i * 2 + 1, none⟩) k1).trans k5
    have f0 := (hBwa.frozen (p := ⟨g1, i * 2 + 1, none⟩) k1).trans k6
    go_wp2
    go_end0
    exact ⟨rfl, HP.out _ hBwa⟩
set_option maxRecDepth 100000 in
set_option maxHeartbeats 4000000 in
theorem leave_last (w : World) (D : Nat → Option Tag) (N j : Nat) (A : Array Value) (v : Value) (l : List Seat) (g : Nat) (r c : Int) (ho : Hid (Own w N A)) (hj : A[j]? = some v) (hv : Hid (RowS w v l)) (hng : v.ownBlock ≠ some N) (hl : l.length ≤ 4000000000000) (hS : Hid (MonoF (fC D r c) l)) (hD : Hid (SeesW w D l)) (hg : g < w.heap.size) (hg0 : w.cell? ⟨g, 0, none⟩ = some (.int .i64 r)) (hg1 : w.cell? ⟨g, 1, none⟩ = some (.int .i64 c)) (x : Seat) (i : Nat) (hi : i = idxF (fC D r c) l) (hx : l[i]? = some x) (h0 : fC D r c x = 0) (hn : x.n = 1) :
    Calls Tryz.prog 63 #[.pointer (some ⟨N, j, none⟩), .pointer (some ⟨g, 0, none⟩)] w fun e w' => e = .returned (.tuple #[]) ∧ CrowdP w N j A v (loF (fC D r c) l ++ hiF (fC D r c) l) w' := by
  have mixed : Tryz.prog.follows .mixedOrders = true := by kernel_rfl
  have hjl := (Array.getElem?_eq_some_iff.1 hj).1
  have cN : w.cell? ⟨N, j, none⟩ = some v := (ho.out.cell j).trans hj
  have fN := ho.out.fro j
  have hNl := ho.out.lt
  have hh : hasF (fC D r c) l = true := by rw [idx_has hS.out (by rw [← hi]; exact hx)]; exact decide_eq_true h0
  have H : Hid (∀ W, Below w.heap.size w W → Calls Tryz.prog 92 #[v, .agg #[.int .i64 r, .int .i64 c]] W fun e w' => e = .returned (.tuple #[.int .i64 i, .bool true]) ∧ Below W.heap.size W w') := (show _ from fun W hb => by
    have := find_any W D v l r c (hv.out.keep hb) hl hS (hD.out.keep hb)
    rw [hh, ← hi] at this
    exact this)
  rcases hv.out.two with ⟨rfl, rfl⟩ | ⟨g1, c1, cur, rfl, _⟩
  · simp at hx
  · obtain ⟨k1, k2, k3, k4, _, k5, k6⟩ := RowS.count hv.out hx
    have hne : g1 ≠ N := fun q => hng (by rw [q]; rfl)
    have HW : Hid (∀ W, Below w.heap.size w W → Calls Tryz.prog 95 #[.slice (some ⟨g1, 0, none⟩) l.length c1, .int .i64 i] (W.setCell ⟨g1, i * 2 + 1, none⟩ (.int .i64 0)) fun e w' => ∃ v', e = .returned v' ∧ (∃ q n cp, v' = .slice q n cp) ∧ Own w' N A ∧ CrowdP w N j A (.slice (some ⟨g1, 0, none⟩) l.length c1) (loF (fC D r c) l ++ hiF (fC D r c) l) (w'.setCell ⟨N, j, none⟩ v')) := (show _ from fun W hb => by
      have hr := RowS.put (hv.out.keep hb) hx 0
      have hil := (List.getElem?_eq_some_iff.1 hx).1
      have hwo := wo_anys (W.setCell ⟨g1, i * 2 + 1, none⟩ (.int .i64 0)) _ (l.set i ⟨x.g, 0⟩) i hr (by simpa using hil) (by simpa using hl)
      rw [show (l.set i (⟨x.g, 0⟩ : Seat)).take i ++ (l.set i ⟨x.g, 0⟩).drop (i + 1) = loF (fC D r c) l ++ hiF (fC D r c) l by
        rw [List.take_set_of_le (Nat.le_refl _), List.drop_set_of_lt (by omega), hi, drop_has hS.out hh]] at hwo
      refine hwo.mono ?_
      rintro e w' ⟨v', rfl, p1, p2, p3⟩
      have hoW : Own (W.setCell ⟨g1, i * 2 + 1, none⟩ (.int .i64 0)) N A := (ho.out.keep hb).aside _ (fun q => hne q.symm)
      have hgo : Own w' N A := hoW.mut p3 (fun q => by injection q with q; exact hne q)
      have hz : (W.setCell ⟨g1, i * 2 + 1, none⟩ (.int .i64 0)).heap.size = W.heap.size := by simp [World.setCell]
      have hob : ∀ b, v'.ownBlock = some b → g1 = b ∨ w.heap.size ≤ b := fun b q => by
        rcases p2 b q with s | s
        · injection s with s; exact .inl s
        · rw [hz] at s; exact .inr (Nat.le_trans hb.size s)
      refine ⟨v', rfl, p1.slice', hgo, v', own_put' hgo hjl, RowG.aside p1 _ (fun b q => ?_), fun b q => (hob b q).imp (fun s => by rw [s]; rfl) id, ?_⟩
      · rcases hob b q with s | s
        · rw [← s]; exact hne
        · simp; omega
      · exact Mut.set (Mut.call (Mut.set (Mut.of_below hb) (.inl (.inr rfl)) _) p3 (fun b q => .inl (.inr q))) (.inl (.inl rfl)) _)
    revert HW
    generalize CrowdP w N j A (.slice (some ⟨g1, 0, none⟩) l.length c1) (loF (fC D r c) l ++ hiF (fC D r c) l) = PP
    intro HW
    rw [hn] at k5
    clear hn hh hS hv ho hng hD hi hx h0
    generalize l.length = n1 at *
    have k3' : (i : Int) < n1 := by omega
    have hne' : N ≠ g1 := fun q => hne q.symm
    go_enter Tryz.func63, Tryz.ntmps63
    go_wp2
    go_region_held3 (fun w' => w'.cell? ⟨N, j, none⟩ = some (.slice (some ⟨g1, 0, none⟩) n1 c1) ∧ w'.cell? ⟨g, 0, none⟩ = some (.int .i64 r) ∧ w'.cell? ⟨g, 1, none⟩ = some (.int .i64 c)) ((repeat' apply And.intro) <;> (first | (go_keep; done) | (go_simp; done))) ((go_at_call 92; refine (H.out _ zqb).mono ?_; rintro e wa ⟨rfl, hbwa⟩; have hBwa : Below w.heap.size w wa := bup zqb hbwa; have za := hBwa.size; have cNa := (hBwa.cell (p := ⟨N, j, none⟩) hNl).trans cN; have fNa := (hBwa.frozen (p := ⟨N, j, none⟩) hNl).trans fN; have x0 := (hBwa.cell (p := ⟨g, 0, none⟩) hg).trans hg0; have x1 := (hBwa.cell (p := ⟨g, 1, none⟩) hg).trans hg1; have lNa := Nat.lt_of_lt_of_le hNl za))
    have y0 := (hBwa.cell (p := ⟨g1, i * 2 + 1, none⟩) k1).trans k5
    have f0 := (hBwa.frozen (p := ⟨g1, i * 2 + 1, none⟩) k1).trans k6
    go_wp2_with (go_at_call 95; refine (HW.out _ hBwa).mono ?_; rintro e wb ⟨v', rfl, ⟨qq, qn, qc, rfl⟩, og, hP⟩; have cg := og.cell; have fg := og.fro; have lg := og.lt; have HP : Hid (PP _) := hP; clear hP)
    go_end0
    exact ⟨rfl, HP.out⟩
end Go.Proofs.YtcjanaldjokllaaGreat
namespace Go.Proofs.YtcjanaldjokllaaGreat
open Go.RowKit
set_option linter.all false
set_option maxRecDepth 100000 in
set_option maxHeartbeats 2000000 in
theorem bs_yr (w : World) (b cp n : Nat) (l : List Rct) (k0 k1 k2 k3 : Int) (f : Rct → Int) (hla : b < w.heap.size) (HA : ∀ i x j u, l[i]? = some x → x.cs[j]? = some u → w.cell? ⟨b, i * 4 + j, none⟩ = some u) (hn : l.length = n) (hc : n ≤ cp) (hl : n ≤ 4000000000000) (hS : Hid (MonoF f l)) (HKf : Hid (∀ W : World, Below w.heap.size w W → ∀ x ∈ l, Calls Tryz.prog 68 #[.agg #[.int .i64 x.t, .int .i64 x.l, .int .i64 x.b, .int .i64 x.r], .agg #[.int .i64 k0, .int .i64 k1, .int .i64 k2, .int .i64 k3]] W fun e w' => e = .returned (.int .i64 (f x)) ∧ Below W.heap.size W w')) :
    Calls Tryz.prog 93 #[.slice (some ⟨b, 0, none⟩) n cp, .agg #[.int .i64 k0, .int .i64 k1, .int .i64 k2, .int .i64 k3], (.func (.func 68) #[] #[])] w fun e w' => e = .returned (.tuple #[.int .i64 (idxF f l), .bool (hasF f l)]) ∧ Below w.heap.size w w' := by
  have HA' : Hid _ := HA
  have HL : Hid (l.length = n) := hn
  clear HA hn
  have mixed : Tryz.prog.follows .mixedOrders = true := by kernel_rfl
  go_enter Tryz.func93, Tryz.ntmps93
  go_wp2
  go_loopw [9, 10] (fun u v w' => ∃ (i j : Nat), u = .int .i64 i ∧ v = .int .i64 j ∧ i ≤ j ∧ j ≤ n ∧ Hid (∀ t x, t < i → l[t]? = some x → f x < 0) ∧ Hid (∀ t x, j ≤ t → l[t]? = some x → 0 ≤ f x) ∧ Own w' w.heap.size #[.int .i64 k0, .int .i64 k1, .int .i64 k2, .int .i64 k3] ∧ Below w.heap.size w w') (fun u v _ => (intOf v).toNat - (intOf u).toNat)
  case atStart => exact ⟨0, n, rfl, rfl, by omega, by omega, (show Hid _ from fun t x h => absurd h (Nat.not_lt_zero _)), (show Hid _ from fun t x h hx => absurd (List.getElem?_eq_some_iff.1 hx).1 (by rw [HL.out]; omega)), by with_reducible (repeat' first | assumption | refine Own.drew ?_ | refine Own.drewN ?_ _ | (refine Own.at ?_; first | rfl | (simp; done)) | refine Own.past ?_ _), by with_reducible (repeat' first | assumption | exact Below.refl _ _ | refine Below.drew ?_ | refine bdrewN ?_ _ | refine Below.setCell ?_ (by first | exact Nat.le_refl _ | (simp; done) | (simp; omega) | omega) _ | refine Below.alloc ?_ (by first | exact Nat.le_refl _ | (simp; done) | (simp; omega) | omega) _)⟩
  case round =>
    obtain ⟨i, j, rfl, rfl, hij, hjn, hlo, hhi, oK, hB3⟩ := hrel
    have cK := oK.cell
    have lK := oK.lt
    have z3 := hB3.size
    by_cases hlt : i < j
    · have hlt' : (i : Int) < j := by omega
      obtain ⟨h, hh⟩ : ∃ h : Nat, h = (i + j) / 2 := ⟨_, rfl⟩
      have h1 : i ≤ h := by omega
      have h2 : h < j := by omega
      have h3 : (h : Int) < n := by omega
      have h4 : (0 : Int) ≤ h := by omega
      have hd1 : ((i : Int) + j) / 2 = h := by omega
      have hd2 : ((i : Int) + j) >>> 1 = h := by rw [Int.shiftRight_eq_div_pow]; omega
      obtain ⟨x, hai⟩ : ∃ x, l[h]? = some x := ⟨_, List.getElem?_eq_getElem (by rw [HL.out]; omega)⟩
      have ca' : ∀ j u, x.cs[j]? = some u → wr.cell? ⟨b, h * 4 + j, none⟩ = some u := fun j u hu => (hB3.cell (p := ⟨b, h * 4 + j, none⟩) hla).trans (HA'.out h x j u hai hu)
      have y0 : wr.cell? ⟨b, h * 4, none⟩ = some (.int .i64 x.t) := ca' 0 _ rfl
      have y1 : wr.cell? ⟨b, h * 4 + 1, none⟩ = some (.int .i64 x.l) := ca' 1 _ rfl
      have y2 : wr.cell? ⟨b, h * 4 + 2, none⟩ = some (.int .i64 x.b) := ca' 2 _ rfl
      have y3 : wr.cell? ⟨b, h * 4 + 3, none⟩ = some (.int .i64 x.r) := ca' 3 _ rfl
      have HAi : Hid (l[h]? = some x) := hai
      have HK : Hid (∀ W : World, Below w.heap.size w W → Calls Tryz.prog 68 #[.agg #[.int .i64 x.t, .int .i64 x.l, .int .i64 x.b, .int .i64 x.r], .agg #[.int .i64 k0, .int .i64 k1, .int .i64 k2, .int .i64 k3]] W fun e w' => e = .returned (.int .i64 (f x)) ∧ Below W.heap.size W w') := (show _ from fun W hb => HKf.out W hb x (List.mem_of_getElem? hai))
      clear ca' hai hh
      obtain ⟨q, hq⟩ : ∃ q : Int, f x = q := ⟨_, rfl⟩
      rw [hq] at HK
      have HQ : Hid (f x = q) := hq
      clear hq
      by_cases hneg : q < 0
      · go_wp2
        go_region_held3 (fun w' => w'.cell? ⟨b, h * 4, none⟩ = some (.int .i64 x.t) ∧ w'.cell? ⟨b, h * 4 + 1, none⟩ = some (.int .i64 x.l) ∧ w'.cell? ⟨b, h * 4 + 2, none⟩ = some (.int .i64 x.b) ∧ w'.cell? ⟨b, h * 4 + 3, none⟩ = some (.int .i64 x.r) ∧ w'.cell? ⟨w.heap.size, 0, none⟩ = some (.int .i64 k0) ∧ w'.cell? ⟨w.heap.size, 1, none⟩ = some (.int .i64 k1) ∧ w'.cell? ⟨w.heap.size, 2, none⟩ = some (.int .i64 k2) ∧ w'.cell? ⟨w.heap.size, 3, none⟩ = some (.int .i64 k3)) ((repeat' apply And.intro) <;> (first | (go_keep; done) | (go_simp; done))) ((go_at_call 68; refine (HK.out _ zqb).mono ?_; rintro e wa ⟨rfl, hbwa⟩; have hBwa : Below w.heap.size w wa := bup zqb hbwa; have hRwa : Below wr.heap.size wr wa := bup zqb hbwa; have oKa := oK.keep hRwa; have cKa := oKa.cell; have ya0 := (hRwa.cell (p := ⟨b, h * 4, none⟩) (Nat.lt_of_lt_of_le hla z3)).trans y0; have ya1 := (hRwa.cell (p := ⟨b, h * 4 + 1, none⟩) (Nat.lt_of_lt_of_le hla z3)).trans y1; have ya2 := (hRwa.cell (p := ⟨b, h * 4 + 2, none⟩) (Nat.lt_of_lt_of_le hla z3)).trans y2; have ya3 := (hRwa.cell (p := ⟨b, h * 4 + 3, none⟩) (Nat.lt_of_lt_of_le hla z3)).trans y3))
        go_wp2
        exact ⟨⟨h + 1, j, by go_num, rfl, by omega, by omega, (show Hid _ from loF_next hS.out HAi.out (by rw [HQ.out]; exact hneg)), hhi, oKa, hBwa⟩, by simp [intOf]; omega⟩
      · go_wp2
        go_region_held3 (fun w' => w'.cell? ⟨b, h * 4, none⟩ = some (.int .i64 x.t) ∧ w'.cell? ⟨b, h * 4 + 1, none⟩ = some (.int .i64 x.l) ∧ w'.cell? ⟨b, h * 4 + 2, none⟩ = some (.int .i64 x.b) ∧ w'.cell? ⟨b, h * 4 + 3, none⟩ = some (.int .i64 x.r) ∧ w'.cell? ⟨w.heap.size, 0, none⟩ = some (.int .i64 k0) ∧ w'.cell? ⟨w.heap.size, 1, none⟩ = some (.int .i64 k1) ∧ w'.cell? ⟨w.heap.size, 2, none⟩ = some (.int .i64 k2) ∧ w'.cell? ⟨w.heap.size, 3, none⟩ = some (.int .i64 k3)) ((repeat' apply And.intro) <;> (first | (go_keep; done) | (go_simp; done))) ((go_at_call 68; refine (HK.out _ zqb).mono ?_; rintro e wa ⟨rfl, hbwa⟩; have hBwa : Below w.heap.size w wa := bup zqb hbwa; have hRwa : Below wr.heap.size wr wa := bup zqb hbwa; have oKa := oK.keep hRwa; have cKa := oKa.cell; have ya0 := (hRwa.cell (p := ⟨b, h * 4, none⟩) (Nat.lt_of_lt_of_le hla z3)).trans y0; have ya1 := (hRwa.cell (p := ⟨b, h * 4 + 1, none⟩) (Nat.lt_of_lt_of_le hla z3)).trans y1; have ya2 := (hRwa.cell (p := ⟨b, h * 4 + 2, none⟩) (Nat.lt_of_lt_of_le hla z3)).trans y2; have ya3 := (hRwa.cell (p := ⟨b, h * 4 + 3, none⟩) (Nat.lt_of_lt_of_le hla z3)).trans y3))
        go_wp2
        exact ⟨⟨i, h, rfl, rfl, by omega, by omega, hlo, (show Hid _ from hiF_next hS.out HAi.out (by rw [HQ.out]; omega)), oKa, hBwa⟩, by simp [intOf]; omega⟩
    · have hlt' : ¬ (i : Int) < j := by omega
      have HI : Hid (i = idxF f l) := (show _ from idxF_of hS.out (by rw [HL.out]; omega) hlo.out (fun t x ht => hhi.out t x (by omega)))
      by_cases hin : i < n
      · have hin' : (i : Int) < n := by omega
        have hin'' : decide ((i : Int) < n) = true := by simpa using hin
        obtain ⟨h, hhi'⟩ : ∃ h, h = i := ⟨_, rfl⟩
        subst hhi'
        obtain ⟨x, hai⟩ : ∃ x, l[h]? = some x := ⟨_, List.getElem?_eq_getElem (by rw [HL.out]; omega)⟩
        have ca' : ∀ j u, x.cs[j]? = some u → wr.cell? ⟨b, h * 4 + j, none⟩ = some u := fun j u hu => (hB3.cell (p := ⟨b, h * 4 + j, none⟩) hla).trans (HA'.out h x j u hai hu)
        have y0 : wr.cell? ⟨b, h * 4, none⟩ = some (.int .i64 x.t) := ca' 0 _ rfl
        have y1 : wr.cell? ⟨b, h * 4 + 1, none⟩ = some (.int .i64 x.l) := ca' 1 _ rfl
        have y2 : wr.cell? ⟨b, h * 4 + 2, none⟩ = some (.int .i64 x.b) := ca' 2 _ rfl
        have y3 : wr.cell? ⟨b, h * 4 + 3, none⟩ = some (.int .i64 x.r) := ca' 3 _ rfl
        have HK : Hid (∀ W : World, Below w.heap.size w W → Calls Tryz.prog 68 #[.agg #[.int .i64 x.t, .int .i64 x.l, .int .i64 x.b, .int .i64 x.r], .agg #[.int .i64 k0, .int .i64 k1, .int .i64 k2, .int .i64 k3]] W fun e w' => e = .returned (.int .i64 (f x)) ∧ Below W.heap.size W w') := (show _ from fun W hb => HKf.out W hb x (List.mem_of_getElem? hai))
        have HF : Hid (hasF f l = decide (f x = 0)) := (show _ from idx_has hS.out (by rw [← HI.out]; exact hai))
        clear ca' hai
        obtain ⟨q, hq⟩ : ∃ q : Int, f x = q := ⟨_, rfl⟩
        rw [hq] at HK HF
        clear hq
        by_cases hz : q = 0
        · subst hz
          go_wp2
          go_region_held3 (fun w' => w'.cell? ⟨b, h * 4, none⟩ = some (.int .i64 x.t) ∧ w'.cell? ⟨b, h * 4 + 1, none⟩ = some (.int .i64 x.l) ∧ w'.cell? ⟨b, h * 4 + 2, none⟩ = some (.int .i64 x.b) ∧ w'.cell? ⟨b, h * 4 + 3, none⟩ = some (.int .i64 x.r) ∧ w'.cell? ⟨w.heap.size, 0, none⟩ = some (.int .i64 k0) ∧ w'.cell? ⟨w.heap.size, 1, none⟩ = some (.int .i64 k1) ∧ w'.cell? ⟨w.heap.size, 2, none⟩ = some (.int .i64 k2) ∧ w'.cell? ⟨w.heap.size, 3, none⟩ = some (.int .i64 k3)) ((repeat' apply And.intro) <;> (first | (go_keep; done) | (go_simp; done))) ((go_at_call 68; refine (HK.out _ zqb).mono ?_; rintro e wa ⟨rfl, hbwa⟩; have hBwa : Below w.heap.size w wa := bup zqb hbwa; have hRwa : Below wr.heap.size wr wa := bup zqb hbwa; have oKa := oK.keep hRwa; have cKa := oKa.cell; have ya0 := (hRwa.cell (p := ⟨b, h * 4, none⟩) (Nat.lt_of_lt_of_le hla z3)).trans y0; have ya1 := (hRwa.cell (p := ⟨b, h * 4 + 1, none⟩) (Nat.lt_of_lt_of_le hla z3)).trans y1; have ya2 := (hRwa.cell (p := ⟨b, h * 4 + 2, none⟩) (Nat.lt_of_lt_of_le hla z3)).trans y2; have ya3 := (hRwa.cell (p := ⟨b, h * 4 + 3, none⟩) (Nat.lt_of_lt_of_le hla z3)).trans y3))
          go_wp2
          exact bodyPost_ret (v := .tuple #[.int .i64 h, .bool true]) (by simp [results, Tryz.results93, go_sem]) rfl ⟨by rw [← HI.out, HF.out]; rfl, hBwa⟩
        · have hqb : (q == 0) = false := by simpa using hz
          go_wp2
          go_region_held3 (fun w' => w'.cell? ⟨b, h * 4, none⟩ = some (.int .i64 x.t) ∧ w'.cell? ⟨b, h * 4 + 1, none⟩ = some (.int .i64 x.l) ∧ w'.cell? ⟨b, h * 4 + 2, none⟩ = some (.int .i64 x.b) ∧ w'.cell? ⟨b, h * 4 + 3, none⟩ = some (.int .i64 x.r) ∧ w'.cell? ⟨w.heap.size, 0, none⟩ = some (.int .i64 k0) ∧ w'.cell? ⟨w.heap.size, 1, none⟩ = some (.int .i64 k1) ∧ w'.cell? ⟨w.heap.size, 2, none⟩ = some (.int .i64 k2) ∧ w'.cell? ⟨w.heap.size, 3, none⟩ = some (.int .i64 k3)) ((repeat' apply And.intro) <;> (first | (go_keep; done) | (go_simp; done))) ((go_at_call 68; refine (HK.out _ zqb).mono ?_; rintro e wa ⟨rfl, hbwa⟩; have hBwa : Below w.heap.size w wa := bup zqb hbwa; have hRwa : Below wr.heap.size wr wa := bup zqb hbwa; have oKa := oK.keep hRwa; have cKa := oKa.cell; have ya0 := (hRwa.cell (p := ⟨b, h * 4, none⟩) (Nat.lt_of_lt_of_le hla z3)).trans y0; have ya1 := (hRwa.cell (p := ⟨b, h * 4 + 1, none⟩) (Nat.lt_of_lt_of_le hla z3)).trans y1; have ya2 := (hRwa.cell (p := ⟨b, h * 4 + 2, none⟩) (Nat.lt_of_lt_of_le hla z3)).trans y2; have ya3 := (hRwa.cell (p := ⟨b, h * 4 + 3, none⟩) (Nat.lt_of_lt_of_le hla z3)).trans y3))
          go_wp2
          exact bodyPost_ret (v := .tuple #[.int .i64 h, .bool false]) (by simp [results, Tryz.results93, go_sem, hz]) rfl ⟨by rw [← HI.out, HF.out]; simp [hz], hBwa⟩
      · have hin' : ¬ (i : Int) < n := by omega
        have hin'' : decide ((i : Int) < n) = false := by simpa using hin
        have HF : Hid (hasF f l = false) := (show _ from idx_end hS.out (by rw [← HI.out, HL.out]; omega))
        go_wp2
        go_quiet (fail)
        go_wp2
        exact bodyPost_ret (v := .tuple #[.int .i64 i, .bool false]) (by simp [results, Tryz.results93, go_sem]) rfl ⟨by rw [← HI.out, HF.out], by with_reducible (repeat' first | assumption | exact Below.refl _ _ | refine Below.drew ?_ | refine bdrewN ?_ _ | refine Below.setCell ?_ (by first | exact Nat.le_refl _ | (simp; done) | (simp; omega) | omega) _ | refine Below.alloc ?_ (by first | exact Nat.le_refl _ | (simp; done) | (simp; omega) | omega) _)⟩
set_option maxRecDepth 100000 in
theorem bs_nilr (w : World) (k0 k1 k2 k3 : Int) :
    Calls Tryz.prog 93 #[.slice none 0 0, .agg #[.int .i64 k0, .int .i64 k1, .int .i64 k2, .int .i64 k3], (.func (.func 68) #[] #[])] w fun e w' => e = .returned (.tuple #[.int .i64 0, .bool false]) ∧ Below w.heap.size w w' := by
  have mixed : Tryz.prog.follows .mixedOrders = true := by kernel_rfl
  go_enter Tryz.func93, Tryz.ntmps93
  go_wp2
  go_loop [9, 10] (fun u v => u = .int .i64 0 ∧ v = .int .i64 0) (fun _ _ => 0)
  case atStart => exact ⟨rfl, rfl⟩
  case round =>
    obtain ⟨rfl, rfl⟩ := hrel
    go_wp2
    go_quiet (fail)
    go_wp2
    exact bodyPost_ret (v := .tuple #[.int .i64 0, .bool false]) (by simp [results, Tryz.results93, go_sem]) rfl ⟨rfl, by with_reducible (repeat' first | assumption | exact Below.refl _ _ | refine Below.drew ?_ | refine bdrewN ?_ _ | refine Below.setCell ?_ (by first | exact Nat.le_refl _ | (simp; done) | (simp; omega) | omega) _ | refine Below.alloc ?_ (by first | exact Nat.le_refl _ | (simp; done) | (simp; omega) | omega) _)⟩
/-- slices.BinarySearchFunc, everywhere. -/
theorem bs_anyr (w : World) (v : Value) (l : List Rct) (k0 k1 k2 k3 : Int) (f : Rct → Int) (hv : RowR w v l) (hl : l.length ≤ 4000000000000) (hS : MonoF f l) (HK : (∀ W : World, Below w.heap.size w W → ∀ x ∈ l, Calls Tryz.prog 68 #[.agg #[.int .i64 x.t, .int .i64 x.l, .int .i64 x.b, .int .i64 x.r], .agg #[.int .i64 k0, .int .i64 k1, .int .i64 k2, .int .i64 k3]] W fun e w' => e = .returned (.int .i64 (f x)) ∧ Below W.heap.size W w')) :
    Calls Tryz.prog 93 #[v, .agg #[.int .i64 k0, .int .i64 k1, .int .i64 k2, .int .i64 k3], (.func (.func 68) #[] #[])] w fun e w' => e = .returned (.tuple #[.int .i64 (idxF f l), .bool (hasF f l)]) ∧ Below w.heap.size w w' := by
  rcases hv.two with ⟨rfl, rfl⟩ | ⟨g, cap, cur, rfl, _, h1, h2, h3, h4, h5, h6⟩
  · exact bs_nilr w k0 k1 k2 k3
  · exact bs_yr w g cap l.length l k0 k1 k2 k3 f h1 (row_cellsG Rct.len h2 h6) rfl h3 hl hS HK
end Go.Proofs.YtcjanaldjokllaaGreat
