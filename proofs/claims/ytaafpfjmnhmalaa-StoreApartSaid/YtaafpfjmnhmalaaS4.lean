/- The contract of row.put: a content is laid at a column of the row to which the pointer leads; it tells whether there was none. Nothing but the row's own block, the block with the row and new ones is turned. The conditions: the spots stand in their order, no more than 65536. -/
import Derived.Test.YtaafpfjmnhmalaaS3
namespace Go.Proofs.Ytaafpfjmnhmalaa
open Go.RowKit
set_option linter.all false
/-- What a put leaves. -/
def RPut (w : World) (kb j : Nat) (B : Array Value) (v : Value) (l' : List Sp) (f : Bool) (e : Ending) (w' : World) : Prop :=
  e = .returned (.bool f) ∧ ∃ v', Own w' kb (B.setIfInBounds j v') ∧ RowW w' v' l' ∧ (v'.ownBlock = v.ownBlock ∨ ∃ g, v'.ownBlock = some g ∧ w.heap.size ≤ g) ∧ Mut (fun k => k = kb ∨ v.ownBlock = some k) w w'
theorem flat_set : ∀ (l : List Sp) (i : Nat) (c : Int) (u x : Option Addr), l[i]? = some ⟨c, u⟩ → flat (l.set i ⟨c, x⟩) = (flat l).set (i * 2 + 1) (.pointer x)
  | [], i, c, u, x, h => by simp at h
  | y :: r, 0, c, u, x, h => by simp at h; subst h; rfl
  | y :: r, i + 1, c, u, x, h => by
    have ih := flat_set r i c u x (by simpa using h)
    have e : ∀ (y : Sp) (t : List Sp), flat (y :: t) = .int .i64 y.c :: .pointer y.v :: flat t := fun _ _ => rfl
    rw [List.set_cons_succ, e, e, ih, show (i + 1) * 2 + 1 = i * 2 + 1 + 1 + 1 by omega, List.set_cons_succ, List.set_cons_succ]
theorem set_self {B : Array Value} {j : Nat} {v : Value} (h : B[j]? = some v) : B.setIfInBounds j v = B := by
  apply Array.ext'
  rw [Array.toList_setIfInBounds]
  have h2 : B.toList[j]? = some v := by simpa using h
  obtain ⟨hl, e⟩ := List.getElem?_eq_some_iff.1 h2
  rw [← e]
  exact List.set_getElem_self hl
theorem bal_old {w : World} {o : Obj} {k : Nat} (h : k < w.heap.size) : (w.alloc o).heap[k]? = w.heap[k]? := Below.heap_alloc w o k h
set_option maxRecDepth 100000 in
set_option maxHeartbeats 2000000 in
theorem rput_y (w : World) (kb j : Nat) (B : Array Value) (v : Value) (l : List Sp) (c : Int) (x : Option Addr) (ho : Hid (Own w kb B)) (hj : B[j]? = some v) (hv : Hid (RowW w v l)) (hne : Hid (v.ownBlock ≠ some kb)) (hl : l.length ≤ 65536) (hS : Hid (Srt l)) (hh : hasS l c = true) :
    Calls Try.prog 29 #[.pointer (some ⟨kb, j, none⟩), .int .i64 c, .pointer x] w (RPut w kb j B v (putS l c x) false) := by
  have H := find_any w v l c hv (by omega) hS
  have ha := at_idx hS.out hh
  have hlt := idx_lt hS.out hh
  have hps := put_set x hS.out hh
  rw [hh] at H
  rcases hv.out.two with ⟨rfl, rfl⟩ | ⟨g, cap, cur, rfl, h1, h2, h3, h4, h5, h6⟩
  · simp at hlt
  · have hc := row_cells h2 h6 _ _ ha
    have hgk : g ≠ kb := fun e => hne.out (by rw [e]; rfl)
    have hb0 : w.cell? ⟨kb, j, none⟩ = some (.slice (some ⟨g, 0, none⟩) l.length cap) := (ho.out.cell j).trans hj
    have hfl := flat_set l (idxS l c) c _ x ha
    have HF : Hid (∀ w1, Below w.heap.size w w1 → RPut w kb j B (.slice (some ⟨g, 0, none⟩) l.length cap) (putS l c x) false (.returned (.bool false)) (w1.setCell ⟨g, idxS l c * 2 + 1, none⟩ (.pointer x))) := by
      intro w1 hb
      have hg1 : w1.heap[g]? = some (.cells cur 97 (0, 0)) := (hb.block g h1).trans h2
      refine ⟨rfl, .slice (some ⟨g, 0, none⟩) l.length cap, ?_, ?_, .inl rfl, ?_⟩
      · rw [set_self hj]
        exact (ho.out.keep hb).aside _ (fun e => hgk e.symm)
      · rw [hps, setCell_eq_setRow w1 g _ cur _ _ _ hg1]
        refine RowW.mk (by rw [List.length_set]) (setRow_heap w1 g cur _ _ _ hg1) (by rw [List.length_set]; exact h3) h4 (by rw [Array.size_setIfInBounds]; exact h5) ?_
        rw [List.length_set, Array.toList_setIfInBounds, hfl, ← h6, List.take_set]
      · exact (Mut.of_below hb).set (.inl (.inr rfl)) _
    have hc2 := hc.2
    have hf2 : w.frozen? ⟨g, idxS l c * 2 + 1, none⟩ = false := fro_row h2
    revert HF
    generalize RPut w kb j B (.slice (some ⟨g, 0, none⟩) l.length cap) (putS l c x) false = PP
    intro HF
    have hkb := ho.out.lt
    have hfk := ho.out.fro j
    obtain ⟨i, hi⟩ : ∃ i : Nat, i = idxS l c := ⟨_, rfl⟩
    obtain ⟨n, hn⟩ : ∃ n : Nat, n = l.length := ⟨_, rfl⟩
    obtain ⟨u, hu⟩ : ∃ u, u = getS l c := ⟨_, rfl⟩
    rw [← hi] at HF hf2
    rw [← hi, ← hn] at H
    rw [← hi, ← hn] at hlt
    rw [← hi, ← hu] at hc2
    rw [← hn] at hl h3 hb0
    have hlt' : (i : Int) < n := by omega
    unfold maxLen at h4
    clear hi hn hu ha hh h2 h6 hv hS hc h5 hps hfl hj ho hne
    go_enter Try.func29, Try.ntmps29
    go_wp2_with (go_at_call 38; refine H.mono ?_; rintro e wa ⟨rfl, hbwa⟩; have zwa := hbwa.size; have y0 := (hbwa.cell (p := ⟨kb, j, none⟩) hkb).trans hb0; have y1 := (hbwa.cell (p := ⟨g, i * 2 + 1, none⟩) h1).trans hc2; have y2 := (hbwa.frozen (p := ⟨g, i * 2 + 1, none⟩) h1).trans hf2)
    all_goals first | exact HF.out _ hbwa | (go_ret; exact HF.out _ hbwa)
set_option maxRecDepth 100000 in
set_option maxHeartbeats 2000000 in
theorem rput_n (w : World) (kb j : Nat) (B : Array Value) (v : Value) (l : List Sp) (c : Int) (x : Option Addr) (ho : Hid (Own w kb B)) (hj : B[j]? = some v) (hv : Hid (RowW w v l)) (hne : Hid (v.ownBlock ≠ some kb)) (hl : l.length ≤ 65536) (hS : Hid (Srt l)) (hh : hasS l c = false) :
    Calls Try.prog 29 #[.pointer (some ⟨kb, j, none⟩), .int .i64 c, .pointer x] w (RPut w kb j B v (putS l c x) true) := by
  have H := find_any w v l c hv (by omega) hS
  have hle := idx_le l c
  have hps := put_ins x hS.out hh
  rw [hh] at H
  have hb0 : w.cell? ⟨kb, j, none⟩ = some v := (ho.out.cell j).trans hj
  have hkb := ho.out.lt
  have hfk := ho.out.fro j
  have hjB : j < B.size := (Array.getElem?_eq_some_iff.1 hj).1
  have HI : Hid (∀ w1, Below w.heap.size w w1 → Calls Try.prog 39 #[v, .int .i64 (idxS l c), .slice (some ⟨w1.heap.size, 0, none⟩) 1 1] (w1.alloc (.cells #[.int .i64 c, .pointer x] 97)) fun e w' => ∃ v', e = .returned v' ∧ w'.cell? ⟨kb, j, none⟩ = some v ∧ w'.frozen? ⟨kb, j, none⟩ = false ∧ (∃ q n cp, v' = .slice q n cp) ∧ RPut w kb j B v (putS l c x) true (.returned (.bool true)) (w'.setCell ⟨kb, j, none⟩ v')) := by
    intro w1 hb
    have hsz := hb.size
    refine (ins_any (w1.alloc (.cells #[.int .i64 c, .pointer x] 97)) v l (idxS l c) w1.heap.size c x ((hv.out.keep hb).keep (bal _ _)) hle hl (heap_alloc_new w1 _) (fun e => by have := (hv.out.keep hb).lt _ e; omega)).mono ?_
    rintro e w' ⟨v', rfl, r1, r2, r3⟩
    have hO : Own w' kb B := (((ho.out.keep hb).past _).mut r3 (fun e => hne.out e))
    refine ⟨v', rfl, (hO.cell j).trans hj, hO.fro j, ?_, rfl, v', own_put' hO hjB, ?_, ?_, ?_⟩
    · rcases r1.two with ⟨rfl, _⟩ | ⟨g, cap, cur, rfl, _⟩ <;> exact ⟨_, _, _, rfl⟩
    · rw [hps]
      refine r1.of_block (fun g hg => Below.heap_setCell w' _ _ g ?_)
      intro e
      simp at e
      subst e
      rcases r2 with r2 | ⟨g', r2, r4⟩
      · exact hne.out (r2.symm.trans hg)
      · rw [hg] at r2; injection r2 with r2; simp at r4; omega
    · rcases r2 with r2 | ⟨g', r2, r4⟩
      · exact .inl r2
      · exact .inr ⟨g', r2, by simp at r4; omega⟩
    · have m1 : Mut (fun k => k = kb ∨ v.ownBlock = some k) w (w1.alloc (.cells #[.int .i64 c, .pointer x] 97)) := (Mut.of_below hb).alloc _
      exact (m1.call r3 (fun b hb => .inl (.inr hb))).set (.inl (.inl rfl)) _
  revert HI
  generalize RPut w kb j B v (putS l c x) true = PP
  intro HI
  obtain ⟨i, hi⟩ : ∃ i : Nat, i = idxS l c := ⟨_, rfl⟩
  rw [← hi] at HI H
  clear hi hh hv hS hps hj ho hne hjB hle
  go_enter Try.func29, Try.ntmps29
  go_wp2_with (first | (go_at_call 38; refine H.mono ?_; rintro e wa ⟨rfl, hbwa⟩; have zwa := hbwa.size; have y0 := (hbwa.cell (p := ⟨kb, j, none⟩) hkb).trans hb0) | (go_at_call 39; refine (HI.out _ hbwa).mono ?_; rintro e wc ⟨v', rfl, q1, q2, ⟨qq, qn, qc, rfl⟩, q4⟩; have Q4 : Hid _ := q4; clear q4 HI H y0))
  all_goals first | exact Q4.out | (go_ret; exact Q4.out)
end Go.Proofs.Ytaafpfjmnhmalaa
