/- The contracts of the comparison of a seat with a cell, of crowd.find and crowd.get. New memory alone is made. · The contract of slices.Insert of one thing into a row of its own. The conditions: the place is none beyond the end; the new one lies in another block; no more than 4000000000000 of them. -/
import Derived.Test.YtcjanaldjokllaaGreatQBPBOBBs
import Derived.Test.YtcjanaldjokllaaGreatQA5BMBE
namespace Go.Proofs.YtcjanaldjokllaaGreat
open Go.RowKit
set_option linter.all false
/-- What a block is: the bands' own (0), a crowd's row (1, its number), the looker of a cell (2), its rectangles' row (3). -/
abbrev Tag := Nat × Int × Int
def rOf (D : Nat → Option Tag) (g : Nat) : Int := match D g with | some (_, r, _) => r | none => 0
def cOf (D : Nat → Option Tag) (g : Nat) : Int := match D g with | some (_, _, c) => c | none => 0
/-- How a seat's cell stands to a cell. -/
def fC (D : Nat → Option Tag) (r c : Int) (s : Seat) : Int := cmpC (rOf D s.g) (cOf D s.g) r c
/-- The cells of the lookers that have a seat. -/
def SeesW (w : World) (D : Nat → Option Tag) (l : List Seat) : Prop := ∀ s ∈ l, s.g < w.heap.size ∧ w.cell? ⟨s.g, 0, none⟩ = some (.int .i64 (rOf D s.g)) ∧ w.cell? ⟨s.g, 1, none⟩ = some (.int .i64 (cOf D s.g))
theorem SeesW.keep {w w' : World} {D : Nat → Option Tag} {l : List Seat} (h : SeesW w D l) (hb : Below w.heap.size w w') : SeesW w' D l := fun s hs => by
  obtain ⟨h1, h2, h3⟩ := h s hs
  exact ⟨Nat.lt_of_lt_of_le h1 hb.size, (hb.cell (p := ⟨s.g, 0, none⟩) h1).trans h2, (hb.cell (p := ⟨s.g, 1, none⟩) h1).trans h3⟩
set_option maxRecDepth 100000 in
theorem fcmp_any (w : World) (g : Nat) (n a b r c : Int) (hg : g < w.heap.size) (h0 : w.cell? ⟨g, 0, none⟩ = some (.int .i64 a)) (h1 : w.cell? ⟨g, 1, none⟩ = some (.int .i64 b)) :
    Calls Tryz.prog 116 #[.agg #[.pointer (some ⟨g, 0, none⟩), .int .i64 n], .agg #[.int .i64 r, .int .i64 c]] w fun e w' => e = .returned (.int .i64 (cmpC a b r c)) ∧ Below w.heap.size w w' := by
  have mixed : Tryz.prog.follows .mixedOrders = true := by kernel_rfl
  have HO : Hid (∀ W, Calls Tryz.prog 34 #[.agg #[.int .i64 a, .int .i64 b], .agg #[.int .i64 r, .int .i64 c]] W fun e w' => e = .returned (.int .i64 (cmpC a b r c)) ∧ Below W.heap.size W w') := fun W => ocel_any a b r c W
  have hgn : ¬ g = w.heap.size := by omega
  have hgn1 : ¬ g = w.heap.size + 1 := by omega
  go_enter Tryz.func116, Tryz.ntmps116
  go_wp2
  go_region_held3 (fun w' => w'.cell? ⟨w.heap.size, 0, none⟩ = some (.pointer (some ⟨g, 0, none⟩)) ∧ w'.cell? ⟨w.heap.size, 1, none⟩ = some (.int .i64 n) ∧ w'.cell? ⟨w.heap.size + 1, 0, none⟩ = some (.int .i64 r) ∧ w'.cell? ⟨w.heap.size + 1, 1, none⟩ = some (.int .i64 c) ∧ w'.cell? ⟨g, 0, none⟩ = some (.int .i64 a) ∧ w'.cell? ⟨g, 1, none⟩ = some (.int .i64 b)) ((repeat' apply And.intro) <;> (first | (go_keep; done) | (go_simp; done))) ((go_at_call 34; refine (HO.out _).mono ?_; rintro e wa ⟨rfl, hbwa⟩; have hBwa : Below w.heap.size w wa := bup zqb hbwa; have o1 : Own wa w.heap.size #[.pointer (some ⟨g, 0, none⟩), .int .i64 n] := Own.keep (by with_reducible (repeat' first | assumption | refine Own.drew ?_ | refine Own.drewN ?_ _ | (refine Own.at ?_; first | rfl | (simp; done)) | refine Own.past ?_ _)) hbwa; have o2 : Own wa (w.heap.size + 1) #[.int .i64 r, .int .i64 c] := Own.keep (by with_reducible (repeat' first | assumption | refine Own.drew ?_ | refine Own.drewN ?_ _ | (refine Own.at ?_; first | rfl | (simp; done)) | refine Own.past ?_ _)) hbwa; have c1 := o1.cell; have c2 := o2.cell; have x0 := (hBwa.cell (p := ⟨g, 0, none⟩) hg).trans h0; have x1 := (hBwa.cell (p := ⟨g, 1, none⟩) hg).trans h1))
  go_wp2
  go_ret
  exact ⟨rfl, hBwa⟩
theorem sees_cmp {w : World} {D : Nat → Option Tag} {l : List Seat} (h : SeesW w D l) (r c : Int) : (∀ W : World, Below w.heap.size w W → ∀ x ∈ l, Calls Tryz.prog 116 #[.agg #[.pointer (some ⟨x.g, 0, none⟩), .int .i64 x.n], .agg #[.int .i64 r, .int .i64 c]] W fun e w' => e = .returned (.int .i64 (fC D r c x)) ∧ Below W.heap.size W w') := fun W hb x hx => by
  obtain ⟨h1, h2, h3⟩ := (h.keep hb) x hx
  exact fcmp_any W x.g x.n _ _ r c h1 h2 h3
set_option maxRecDepth 100000 in
theorem find_any (w : World) (D : Nat → Option Tag) (v : Value) (l : List Seat) (r c : Int) (hv : Hid (RowS w v l)) (hl : l.length ≤ 4000000000000) (hS : Hid (MonoF (fC D r c) l)) (hD : Hid (SeesW w D l)) :
    Calls Tryz.prog 92 #[v, .agg #[.int .i64 r, .int .i64 c]] w fun e w' => e = .returned (.tuple #[.int .i64 (idxF (fC D r c) l), .bool (hasF (fC D r c) l)]) ∧ Below w.heap.size w w' := by
  obtain ⟨i, hi⟩ : ∃ i : Nat, i = idxF (fC D r c) l := ⟨_, rfl⟩
  obtain ⟨f, hf⟩ : ∃ f : Bool, f = hasF (fC D r c) l := ⟨_, rfl⟩
  have H : Hid (∀ W, Below w.heap.size w W → Calls Tryz.prog 115 #[v, .agg #[.int .i64 r, .int .i64 c], .func (.func 116) #[] #[]] W fun e w' => e = .returned (.tuple #[.int .i64 i, .bool f]) ∧ Below W.heap.size W w') := (show _ from fun W hb => by
    have := bs_anys W v l r c (fC D r c) (hv.out.keep hb) hl hS.out (sees_cmp (hD.out.keep hb) r c)
    rw [← hi, ← hf] at this
    exact this)
  rw [← hi, ← hf]
  clear hi hf
  go_enter Tryz.func92, Tryz.ntmps92
  go_wp2_with (go_at_call 115; refine (H.out _ zqb).mono ?_; rintro e wa ⟨rfl, hbwa⟩; have hBwa : Below w.heap.size w wa := bup zqb hbwa)
  exact bodyPost_ret (v := .tuple #[.int .i64 i, .bool f]) (by simp [results, Tryz.results92, go_sem]) rfl ⟨rfl, hBwa⟩
/-- Whose seat there is. -/
def getG (D : Nat → Option Tag) (r c : Int) (l : List Seat) : Option Addr := (l.find? (fun s => decide (fC D r c s = 0))).map (fun s => ⟨s.g, 0, none⟩)
theorem getG_no {D : Nat → Option Tag} {r c : Int} {l : List Seat} (h : hasF (fC D r c) l = false) : getG D r c l = none := by
  unfold getG
  rw [List.find?_eq_none.2 (fun x hx => by
    unfold hasF at h
    rw [List.any_eq_false] at h
    exact h x hx)]
  rfl
theorem getG_yes {D : Nat → Option Tag} {r c : Int} {l : List Seat} (hS : MonoF (fC D r c) l) {x : Seat} (hx : l[idxF (fC D r c) l]? = some x) (h0 : fC D r c x = 0) : getG D r c l = some ⟨x.g, 0, none⟩ := by
  unfold getG
  have e : l.find? (fun s => decide (fC D r c s = 0)) = some x := by
    rw [parts hS]
    obtain ⟨h1, h2⟩ := List.getElem?_eq_some_iff.1 hx
    have e2 : geF (fC D r c) l = x :: l.drop (idxF (fC D r c) l + 1) := by
      rw [← drop_idx hS, ← h2]
      exact List.drop_eq_getElem_cons h1
    rw [e2, List.find?_append, List.find?_cons, show decide (fC D r c x = 0) = true from decide_eq_true h0]
    rw [List.find?_eq_none.2 (fun y hy => by
      have := of_decide_eq_true (List.mem_filter.1 hy).2
      simp; omega)]
    rfl
  rw [e]
  rfl
set_option maxRecDepth 100000 in
theorem get_any (w : World) (D : Nat → Option Tag) (v : Value) (l : List Seat) (r c : Int) (hv : Hid (RowS w v l)) (hl : l.length ≤ 4000000000000) (hS : Hid (MonoF (fC D r c) l)) (hD : Hid (SeesW w D l)) :
    Calls Tryz.prog 61 #[v, .agg #[.int .i64 r, .int .i64 c]] w fun e w' => e = .returned (.pointer (getG D r c l)) ∧ Below w.heap.size w w' := by
  have mixed : Tryz.prog.follows .mixedOrders = true := by kernel_rfl
  have H : Hid (∀ W, Below w.heap.size w W → Calls Tryz.prog 92 #[v, .agg #[.int .i64 r, .int .i64 c]] W fun e w' => e = .returned (.tuple #[.int .i64 (idxF (fC D r c) l), .bool (hasF (fC D r c) l)]) ∧ Below W.heap.size W w') := (show _ from fun W hb => find_any W D v l r c (hv.out.keep hb) hl hS (hD.out.keep hb))
  cases hh : hasF (fC D r c) l
  · rw [getG_no hh]
    rw [hh] at H
    generalize idxF (fC D r c) l = i at *
    go_enter Tryz.func61, Tryz.ntmps61
    go_wp2_with (go_at_call 92; refine (H.out _ zqb).mono ?_; rintro e wa ⟨rfl, hbwa⟩; have hBwa : Below w.heap.size w wa := bup zqb hbwa)
    go_ret
    exact ⟨rfl, hBwa⟩
  · obtain ⟨x, hx, h0, hlt⟩ := has_idx hS.out hh
    rw [getG_yes hS.out hx h0]
    rw [hh] at H
    rcases hv.out.two with ⟨rfl, rfl⟩ | ⟨g, cap, cur, rfl, _, h1, h2, h3, h4, h5, h6⟩
    · simp at hlt
    · have y0 : w.cell? ⟨g, idxF (fC D r c) l * 2, none⟩ = some (.pointer (some ⟨x.g, 0, none⟩)) := row_cellsG Seat.len h2 h6 _ x 0 _ hx rfl
      clear h0 h2 h4 h5 h6 hx hh
      generalize idxF (fC D r c) l = i at *
      have HL : Hid (i < l.length) := hlt
      clear hS hD hv
      generalize l.length = n at *
      have hlt' : (i : Int) < n := by omega
      go_enter Tryz.func61, Tryz.ntmps61
      go_wp2_with (go_at_call 92; refine (H.out _ zqb).mono ?_; rintro e wa ⟨rfl, hbwa⟩; have hBwa : Below w.heap.size w wa := bup zqb hbwa; have ya := (hBwa.cell (p := ⟨g, i * 2, none⟩) h1).trans y0)
      go_ret
      exact ⟨rfl, hBwa⟩
end Go.Proofs.YtcjanaldjokllaaGreat
namespace Go.Proofs.YtcjanaldjokllaaGreat
open Go.RowKit
set_option linter.all false
theorem app_tys (ty : TypeId) (v x : Value) (w : World) : (Builtin.append_ #[109, 108] ty #[v, x]).run Tryz.prog w = (Builtin.append_ #[109, 109] ty #[v, x]).run Tryz.prog w := by
  unfold Builtin.append_
  have u1 := Tryz.underlying109
  have u2 := Tryz.underlying108
  cases v <;> simp [Sem.run_bind, Sem.run_pure, underlying, u1, u2, Result.andThen_ok]
set_option maxRecDepth 100000 in
set_option maxHeartbeats 4000000 in
theorem ins_ends (w : World) (v : Value) (l : List Seat) (vb : Nat) (x : Seat) (hv : Hid (RowS w v l)) (hl : l.length ≤ 4000000000000) (hvb : Hid (w.heap[vb]? = some (.cells x.cs.toArray 147 (0, 0)))) :
    Calls Tryz.prog 106 #[v, .int .i64 l.length, .slice (some ⟨vb, 0, none⟩) 1 1] w (InsP 147 2 Seat.cs w v (l ++ [x])) := by
  have mixed : Tryz.prog.follows .mixedOrders = true := by kernel_rfl
  obtain ⟨i, hi, hz, hsz, hby⟩ := info_parts infoSeat
  have hrun := fun ty => run_append_own_at (P := Tryz.prog) w 0 109 ty 147 i _ 2 16 Tryz.underlying109 hi hz hsz hby rfl (by omega) v l.length (flatG Seat.cs l) hv.out ⟨vb, 0, none⟩ 1 1 x.cs rfl (one_news hvb.out) (Seat.one x) (by unfold maxLen; omega) (by omega) (Nat.zero_le _)
  have HR : Hid (∀ ty, ∃ v' w', (Builtin.append_ #[109, 109] ty #[v, .slice (some ⟨vb, 0, none⟩) 1 1]).run Tryz.prog w = .ok v' w' ∧ InsP 147 2 Seat.cs w v (l ++ [x]) (.returned v') w') := (show _ from fun ty => by
    obtain ⟨v', w', h1, h2, h3, h4, h5⟩ := hrun ty
    refine ⟨v', w', h1, v', rfl, ?_, ?_, ⟨h3.os, h3.tape, h3.output, h3.size, fun k hk hs => h3.block k hk (fun e => hs e.symm)⟩⟩
    · unfold RowG
      rw [flatG_app, List.length_append]
      exact h2
    · rcases h5 with h5 | h5
      · exact .inl h5
      · exact .inr ⟨_, h5, Nat.le_refl _⟩)
  clear hrun hi hz hsz hby
  have hsl : ∃ q cp, v = .slice q l.length cp ∧ l.length ≤ cp ∧ cp ≤ maxLen := by
    rcases hv.out.two with ⟨rfl, rfl⟩ | ⟨g, cap, cur, rfl, _, h1, h2, h3, h4, h5, h6⟩
    · exact ⟨_, _, rfl, Nat.le_refl _, Nat.zero_le _⟩
    · exact ⟨_, _, rfl, h3, h4⟩
  obtain ⟨q, cp, rfl, hc1, hc2⟩ := hsl
  unfold maxLen at hc2
  clear hv
  generalize l.length = n at *
  have HI : Hid (∀ v' w', InsP 147 2 Seat.cs w (.slice q n cp) (l ++ [x]) (.returned v') w' → InsP 147 2 Seat.cs w (.slice q n cp) (l ++ [x]) (.returned v') w') := (show _ from fun _ _ h => h)
  revert HR HI
  generalize InsP 147 2 Seat.cs w (.slice q n cp) (l ++ [x]) = PP
  intro HR HI
  clear i
  have hne0 : ((1 : Int) == 0) = false := rfl
  cases q with
  | none =>
    go_enter Tryz.func106, Tryz.ntmps106
    go_wp2_with (at_builtin; obtain ⟨v', w', hr, hP⟩ := HR.out _; refine wpList_app3 rfl _ _ _ _ rfl _ _ rfl rfl v' w' ((app_tys _ _ _ _).trans hr) ?_; have hP' : Hid _ := hP; clear hP hr HR)
    all_goals first | exact hP'.out | (go_ret; exact hP'.out)
  | some ad =>
    obtain ⟨ab, ao, asp⟩ := ad
    go_enter Tryz.func106, Tryz.ntmps106
    go_wp2_with (at_builtin; obtain ⟨v', w', hr, hP⟩ := HR.out _; refine wpList_app3 rfl _ _ _ _ rfl _ _ rfl rfl v' w' ((app_tys _ _ _ _).trans hr) ?_; have hP' : Hid _ := hP; clear hP hr HR)
    all_goals first | exact hP'.out | (go_ret; exact hP'.out)
theorem over_nos (w : World) (vb g lb cb o : Nat) (x : Seat) (cur : Array Value) (hvb : w.heap[vb]? = some (.cells x.cs.toArray 147 (0, 0))) (hg : w.heap[g]? = some (.cells cur 147 (0, 0))) (hne : vb ≠ g) (h0 : cur.size ≠ 0) :
    (callFunc 126 #[.slice (some ⟨vb, 0, none⟩) 1 1, .slice (some ⟨g, o, none⟩) lb cb]).run Tryz.prog w = .ok (.value (.bool false)) w := by
  rw [run_callFunc_extern Tryz.func126 (by kernel_rfl) (by kernel_rfl) (by kernel_rfl) (e := Extern.SlicesOverlaps.overlaps #[108, 108] #[4]) (by kernel_rfl),
    Lib.run_overlaps_apart w 108 4 147 Tryz.underlying108 2 (fun w => by kernel_rfl) ⟨vb, 0, none⟩ ⟨g, o, none⟩ 1 1 lb cb hne 147 147 2 cur.size (by simp [World.shape?, hvb, Seat.len]) (by simp [World.shape?, hg]) h0 (fro_row hvb) (fro_row hvb)]
  rfl
set_option maxRecDepth 100000 in
set_option maxHeartbeats 4000000 in
theorem ins_shifts (w : World) (g n cp i : Nat) (l : List Seat) (cur : Array Value) (vb : Nat) (x : Seat) (hn : l.length = n) (hi : i < n) (hroom : n + 1 ≤ cp) (hcp : cp ≤ maxLen) (hl : n ≤ 4000000000000) (hg : Hid (w.heap[g]? = some (.cells cur 147 (0, 0)))) (hsz : Hid (cur.size = cp * 2)) (htk : Hid (cur.toList.take (l.length * 2) = flatG Seat.cs l)) (hvb : Hid (w.heap[vb]? = some (.cells x.cs.toArray 147 (0, 0)))) (hne : vb ≠ g) :
    Calls Tryz.prog 106 #[.slice (some ⟨g, 0, none⟩) n cp, .int .i64 i, .slice (some ⟨vb, 0, none⟩) 1 1] w (InsP 147 2 Seat.cs w (.slice (some ⟨g, 0, none⟩) n cp) (l.take i ++ x :: l.drop i)) := by
  have mixed : Tryz.prog.follows .mixedOrders = true := by kernel_rfl
  unfold maxLen at hcp
  have hov : ∀ o lb cb, (callFunc 126 #[.slice (some ⟨vb, 0, none⟩) 1 1, .slice (some ⟨g, o, none⟩) lb cb]).run Tryz.prog w = .ok (.value (.bool false)) w := fun o lb cb => over_nos w vb g lb cb o x cur hvb.out hg.out hne (by rw [hsz.out]; omega)
  have hne1 : ((i : Int) == n) = false := by simp; omega
  have hi' : (i : Int) < n := by omega
  have hci : ¬ (cp = i) := by omega
  have hci1 : ¬ (cp = i + 1) := by omega
  have HN : Hid (l.length = n) := hn
  clear hn
  have hdl : (flatG Seat.cs (l.drop i)).length = (n - i) * 2 := by rw [flatG_len Seat.len, List.length_drop, HN.out]
  have hm1 : Nat.min (n + 1 - i) (n - i) = n - i := by simp only [Nat.min_def]; split <;> omega
  have hm2 : Nat.min 1 (n + 1 - i) = 1 := by simp only [Nat.min_def]; split <;> omega
  have hle : (i + 1) * 2 + (n - i) * 2 ≤ cp * 2 := by omega
  have hsrc : ∀ j u, (flatG Seat.cs (l.drop i))[j]? = some u → w.cell? ((⟨g, i * 2, none⟩ : Addr).add j) = some u := by
    intro j u hj
    rw [add_none, cell_row hg.out]
    rw [flatG_drop Seat.len, List.getElem?_drop, ← htk.out, List.getElem?_take] at hj
    split at hj
    · simpa using hj
    · cases hj
  have hcp1 : ∀ ty dc sc, (Builtin.copy_ #[109, 109] ty #[.slice (some ⟨g, (i + 1) * 2, none⟩) (n - i) dc, .slice (some ⟨g, i * 2, none⟩) (n + 1 - i) sc]).run Tryz.prog w.drew = .ok (goInt ((n - i : Nat) : Int)) (w.drew.setRow g (splice cur.toList ((i + 1) * 2) (flatG Seat.cs (l.drop i))).toArray) := fun ty dc sc => by
    have h := run_copy_rowN (P := Tryz.prog) w.drew 109 109 ty 147 2 g ((i + 1) * 2) (n - i) dc ⟨g, i * 2, none⟩ (n + 1 - i) sc cur 147 (flatG Seat.cs (l.drop i)) Tryz.underlying109 infoSeatZ hg.out (by rw [hm1, hdl]) hsrc (by rw [hdl, hsz.out]; exact hle) (flatG_one Seat.one _)
    rw [hm1] at h
    exact h
  obtain ⟨C1, hC1⟩ : ∃ C1, C1 = splice cur.toList ((i + 1) * 2) (flatG Seat.cs (l.drop i)) := ⟨_, rfl⟩
  rw [← hC1] at hcp1
  have hl1 : C1.length = cp * 2 := by rw [hC1, length_splice _ _ _ (by rw [hdl, Array.length_toList, hsz.out]; exact hle), Array.length_toList, hsz.out]
  obtain ⟨W1, hW1⟩ : ∃ W1, W1 = w.drew.setRow g C1.toArray := ⟨_, rfl⟩
  have hg1 : W1.heap[g]? = some (.cells C1.toArray 147 (0, 0)) := by rw [hW1]; exact setRow_heap w.drew g cur _ _ _ hg.out
  have hv1 : W1.heap[vb]? = some (.cells x.cs.toArray 147 (0, 0)) := by rw [hW1]; exact (setRow_other w.drew g vb _ hne).trans hvb.out
  have hcp2 : ∀ ty dc, (Builtin.copy_ #[109, 108] ty #[.slice (some ⟨g, i * 2, none⟩) (n + 1 - i) dc, .slice (some ⟨vb, 0, none⟩) 1 1]).run Tryz.prog W1 = .ok (goInt 1) (W1.setRow g (splice C1 (i * 2) x.cs).toArray) := fun ty dc => by
    have h := run_copy_rowN (P := Tryz.prog) W1 109 108 ty 147 2 g (i * 2) (n + 1 - i) dc ⟨vb, 0, none⟩ 1 1 C1.toArray 147 x.cs Tryz.underlying109 infoSeatZ hg1 (by rw [hm2]; rfl) (one_news hv1) (by simp [Seat.len]; omega) (Seat.one x)
    rw [hm2] at h
    exact h
  have HP : Hid (InsP 147 2 Seat.cs w (.slice (some ⟨g, 0, none⟩) n cp) (l.take i ++ x :: l.drop i) (.returned (.slice (some ⟨g, 0, none⟩) (n + 1) cp)) (W1.setRow g (splice C1 (i * 2) x.cs).toArray)) := by
    have e : splice C1 (i * 2) x.cs = cur.toList.take (i * 2) ++ (x.cs ++ (flatG Seat.cs (l.drop i) ++ cur.toList.drop (i * 2 + 2 + (n - i) * 2))) := by
      have h := (splice_two cur.toList x.cs (flatG Seat.cs (l.drop i)) (i * 2) 2 ((n - i) * 2) rfl hdl (by rw [Array.length_toList, hsz.out]; omega)).1
      rw [hC1, show (i + 1) * 2 = i * 2 + 2 by omega]
      exact h
    refine ⟨_, rfl, RowG.mk Seat.len (by simp [HN.out]; omega) (Nat.zero_le _) (setRow_heap W1 g _ _ _ _ hg1) (by simp [HN.out]; omega) (by unfold maxLen; omega) ?_ ?_, .inl rfl, ?_⟩
    · rw [List.size_toArray, length_splice _ _ _ (by rw [hl1]; simp [Seat.len]; omega), hl1]
    · have e2 : cur.toList.take (i * 2) = flatG Seat.cs (l.take i) := by
        rw [flatG_take Seat.len, ← htk.out, List.take_take, HN.out, Nat.min_eq_left (by omega)]
      rw [List.toList_toArray, e, e2, flatG_app, flatG_cons, ← List.append_assoc, ← List.append_assoc]
      have e3 : (l.take i ++ x :: l.drop i).length * 2 = (flatG Seat.cs (l.take i) ++ x.cs ++ flatG Seat.cs (l.drop i)).length := by
        simp only [List.length_append, flatG_len Seat.len, Seat.len, List.length_cons, List.length_nil]; omega
      rw [e3]
      rw [List.take_left, List.append_assoc]
    · rw [hW1]
      exact Mut.setRow (S := fun k => (Value.slice (some ⟨g, 0, none⟩) n cp).ownBlock = some k) (Mut.setRow (S := fun k => (Value.slice (some ⟨g, 0, none⟩) n cp).ownBlock = some k) (Mut.drew (Mut.refl _ w)) (.inl rfl) _) (.inl rfl) _
  have hw1 : IntKind.i64.wrap ((i : Int) + 1) = (i : Int) + 1 := by rw [IntKind.wrap_i64]; omega
  have hb1 : (0 : Int) ≤ (i : Int) + 1 := by omega
  have hin : i ≤ n := by omega
  have htn : ((i : Int) + 1).toNat = i + 1 := by omega
  have hb3 : (i : Int) ≤ (n : Int) + 1 := by omega
  have HV : Hid _ := hv1
  have HG : Hid _ := hg1
  rw [← hW1] at hcp1
  clear hW1 hC1 hl1 hv1 hg1 hm1 hm2 hsrc hdl hle
  revert HP
  generalize InsP 147 2 Seat.cs w (.slice (some ⟨g, 0, none⟩) n cp) (l.take i ++ x :: l.drop i) = PP
  intro HP
  go_enter Tryz.func106, Tryz.ntmps106
  go_wp2_with (simp only [hov])
  go_region_law (refine step_copyN rfl _ _ 109 109 rfl _ _ (by simp [Act.eval, Act.put]) (by simp [Act.eval, Act.put]) (hcp1 _ _ _) ?_)
  go_wp2_with (at_builtin; refine wpList_copyN _ rfl _ _ 109 108 rfl _ _ rfl rfl (hcp2 _ _) ?_)
  all_goals first | exact HP.out | (go_ret; exact HP.out)
set_option maxRecDepth 100000 in
set_option maxHeartbeats 4000000 in
theorem ins_grows (w : World) (g n cp i : Nat) (l : List Seat) (cur : Array Value) (vb : Nat) (x : Seat) (hn : l.length = n) (hi : i < n) (hnc : n ≤ cp) (hroom : cp < n + 1) (hcp : cp ≤ maxLen) (hl : n ≤ 4000000000000) (hg : Hid (w.heap[g]? = some (.cells cur 147 (0, 0)))) (hsz : Hid (cur.size = cp * 2)) (htk : Hid (cur.toList.take (l.length * 2) = flatG Seat.cs l)) (hvb : Hid (w.heap[vb]? = some (.cells x.cs.toArray 147 (0, 0)))) :
    Calls Tryz.prog 106 #[.slice (some ⟨g, 0, none⟩) n cp, .int .i64 i, .slice (some ⟨vb, 0, none⟩) 1 1] w (InsP 147 2 Seat.cs w (.slice (some ⟨g, 0, none⟩) n cp) (l.take i ++ x :: l.drop i)) := by
  have mixed : Tryz.prog.follows .mixedOrders = true := by kernel_rfl
  unfold maxLen at hcp
  obtain ⟨i0, hi0, hz0, hzs, hzb⟩ := info_parts infoSeat
  have hne1 : ((i : Int) == n) = false := by simp; omega
  have hi' : (i : Int) < n := by omega
  have hci : ¬ (cp = i) := by omega
  have HN : Hid (l.length = n) := hn
  clear hn
  have hdl : (flatG Seat.cs (l.drop i)).length = (n - i) * 2 := by rw [flatG_len Seat.len, List.length_drop, HN.out]
  have htl : (flatG Seat.cs (l.take i)).length = i * 2 := by rw [flatG_len Seat.len, List.length_take, HN.out, Nat.min_eq_left (by omega)]
  have hglt : g < w.heap.size := (Array.getElem?_eq_some_iff.1 hg.out).1
  have hvlt : vb < w.heap.size := (Array.getElem?_eq_some_iff.1 hvb.out).1
  have hold : (Builtin.firstCells i0.size i (.slice (some ⟨g, 0, none⟩) i cp)).run Tryz.prog w.drew = .ok (flatG Seat.cs (l.take i)).toArray w.drew := by
    rw [hzs]
    exact run_firstCells_some w.drew 2 i ⟨g, 0, none⟩ i cp (flatG Seat.cs (l.take i)) htl (fun j u hj => by
      rw [add_none, Nat.zero_add, cell_row (w := w.drew) hg.out]
      rw [flatG_take Seat.len, ← htk.out, List.take_take, List.getElem?_take] at hj
      split at hj
      · simpa using hj
      · cases hj)
  have hik : i + (n + 1 - i) = n + 1 := by omega
  obtain ⟨G, hG⟩ : ∃ G, G = grownCap w (n + 1) cp 147 := ⟨_, rfl⟩
  obtain ⟨ROW, hROW⟩ : ∃ ROW : Array Value, ROW = (flatG Seat.cs (l.take i)).toArray ++ Builtin.zeroCells (Value.agg #[.pointer none, .int .i64 0]).cells (n + 1 - i) ++ Builtin.zeroCells (Value.agg #[.pointer none, .int .i64 0]).cells (G - (n + 1)) := ⟨_, rfl⟩
  obtain ⟨WA, hWA⟩ : ∃ WA, WA = w.drew.alloc (.cells ROW 147) := ⟨_, rfl⟩
  obtain ⟨NB, hNB⟩ : ∃ NB, NB = w.heap.size := ⟨_, rfl⟩
  have hrz : ∀ ty, (Builtin.append_ #[109, 3] ty #[.slice (some ⟨g, 0, none⟩) i cp, .int .i64 ((n : Int) + 1 - (i : Int))]).run Tryz.prog w = .ok (.slice (some ⟨NB, 0, none⟩) (n + 1) G) WA := fun ty => by
    have h := Lib.run_append_grow_zeros w 109 3 ty 147 i0 _ .i64 .i64 Tryz.underlying109 Tryz.underlying3 hi0 hz0 (some ⟨g, 0, none⟩) i cp (flatG Seat.cs (l.take i)) hold (n + 1 - i) (by omega) (by omega) (by omega) (by omega) (by rw [hzb]; omega) (by rw [hzb, hik]; exact growslice_fits hroom (by omega))
    rw [hik, ← hG, ← hROW, ← hWA, ← hNB] at h
    rw [show (n : Int) + 1 - (i : Int) = ((n + 1 - i : Nat) : Int) by omega]
    exact h
  have hGn : n + 1 ≤ G := by rw [hG]; exact grownCap_ge w _ _ _
  have hGm : G ≤ maxLen := by rw [hG]; exact grownCap_le_maxLen w (n + 1) cp _ (by unfold maxLen; omega)
  have hRs : ROW.size = G * 2 := by
    rw [hROW]
    simp only [Array.size_append, List.size_toArray, zero_size, htl]
    simp only [Value.cells]
    simp
    omega
  have hRt : ROW.toList.take (i * 2) = flatG Seat.cs (l.take i) := by
    rw [hROW]
    simp only [Array.toList_append, List.toList_toArray, List.append_assoc]
    exact List.take_left' htl
  have hgA : WA.heap[NB]? = some (.cells ROW 147 (0, 0)) := by rw [hWA, hNB]; exact heap_alloc_new w.drew _
  have hoA : ∀ k, k < w.heap.size → WA.heap[k]? = w.heap[k]? := fun k hk => by rw [hWA]; exact Below.heap_alloc w.drew _ k hk
  have hvA := (hoA vb hvlt).trans hvb.out
  have hm2 : Nat.min 1 (n + 1 - i) = 1 := by simp only [Nat.min_def]; split <;> omega
  have hm1 : Nat.min (n - i) (n - i) = n - i := Nat.min_self _
  obtain ⟨C1, hC1⟩ : ∃ C1, C1 = splice ROW.toList (i * 2) x.cs := ⟨_, rfl⟩
  have hl1 : C1.length = G * 2 := by rw [hC1, length_splice _ _ _ (by simp [hRs, Seat.len]; omega), Array.length_toList, hRs]
  obtain ⟨WB, hWB⟩ : ∃ WB, WB = WA.setRow NB C1.toArray := ⟨_, rfl⟩
  have hcpA : ∀ ty dc, (Builtin.copy_ #[109, 108] ty #[.slice (some ⟨NB, i * 2, none⟩) (n + 1 - i) dc, .slice (some ⟨vb, 0, none⟩) 1 1]).run Tryz.prog WA = .ok (goInt 1) WB := fun ty dc => by
    have h := run_copy_rowN (P := Tryz.prog) WA 109 108 ty 147 2 NB (i * 2) (n + 1 - i) dc ⟨vb, 0, none⟩ 1 1 ROW 147 x.cs Tryz.underlying109 infoSeatZ hgA (by rw [hm2]; rfl) (one_news hvA) (by rw [hRs]; simp [Seat.len]; omega) (Seat.one x)
    rw [hm2, ← hC1, ← hWB] at h
    exact h
  have hgB : WB.heap[NB]? = some (.cells C1.toArray 147 (0, 0)) := by rw [hWB]; exact setRow_heap WA NB ROW _ _ _ hgA
  have hoB : WB.heap[g]? = some (.cells cur 147 (0, 0)) := by rw [hWB, setRow_other WA NB g _ (by omega), hoA g hglt]; exact hg.out
  obtain ⟨WC, hWC⟩ : ∃ WC, WC = WB.drew.setRow NB (splice C1 ((i + 1) * 2) (flatG Seat.cs (l.drop i))).toArray := ⟨_, rfl⟩
  have hcpB : ∀ ty dc sc, (Builtin.copy_ #[109, 109] ty #[.slice (some ⟨NB, (i + 1) * 2, none⟩) (n - i) dc, .slice (some ⟨g, i * 2, none⟩) (n - i) sc]).run Tryz.prog WB.drew = .ok (goInt ((n - i : Nat) : Int)) WC := fun ty dc sc => by
    have h := run_copy_rowN (P := Tryz.prog) WB.drew 109 109 ty 147 2 NB ((i + 1) * 2) (n - i) dc ⟨g, i * 2, none⟩ (n - i) sc C1.toArray 147 (flatG Seat.cs (l.drop i)) Tryz.underlying109 infoSeatZ hgB (by rw [hm1, hdl]) (by
      intro j u hj
      rw [add_none, cell_row (w := WB.drew) hoB]
      rw [flatG_drop Seat.len, List.getElem?_drop, ← htk.out, List.getElem?_take] at hj
      split at hj
      · simpa using hj
      · cases hj) (by rw [hdl, List.size_toArray, hl1]; omega) (flatG_one Seat.one _)
    rw [hm1, ← hWC] at h
    exact h
  have HP : Hid (InsP 147 2 Seat.cs w (.slice (some ⟨g, 0, none⟩) n cp) (l.take i ++ x :: l.drop i) (.returned (.slice (some ⟨NB, 0, none⟩) (n + 1) G)) WC) := by
    have e : splice C1 ((i + 1) * 2) (flatG Seat.cs (l.drop i)) = ROW.toList.take (i * 2) ++ (x.cs ++ (flatG Seat.cs (l.drop i) ++ ROW.toList.drop (i * 2 + 2 + (n - i) * 2))) := by
      have h := (splice_two ROW.toList x.cs (flatG Seat.cs (l.drop i)) (i * 2) 2 ((n - i) * 2) rfl hdl (by rw [Array.length_toList, hRs]; omega)).2
      rw [hC1, show (i + 1) * 2 = i * 2 + 2 by omega]
      exact h
    refine ⟨_, rfl, RowG.mk Seat.len (by simp [HN.out]; omega) (Nat.zero_le _) (by rw [hWC]; exact setRow_heap WB.drew NB _ _ _ _ hgB) (by simp [HN.out]; omega) hGm ?_ ?_, .inr ⟨NB, rfl, by omega⟩, ?_⟩
    · rw [List.size_toArray, length_splice _ _ _ (by rw [hl1, hdl]; omega), hl1]
    · rw [List.toList_toArray, e, hRt, flatG_app, flatG_cons, ← List.append_assoc, ← List.append_assoc]
      have e3 : (l.take i ++ x :: l.drop i).length * 2 = (flatG Seat.cs (l.take i) ++ x.cs ++ flatG Seat.cs (l.drop i)).length := by
        simp only [List.length_append, flatG_len Seat.len, Seat.len, List.length_cons, List.length_nil]; omega
      rw [e3]
      rw [List.take_left, List.append_assoc]
    · rw [hWC, hWB, hWA]
      exact Mut.setRow (Mut.drew (Mut.setRow (Mut.alloc (Mut.drew (Mut.refl _ w)) _) (.inr (by omega)) _)) (.inr (by omega)) _
  have hGi : ¬ (G = i) := by omega
  have hGi1 : ¬ (G = i + 1) := by omega
  have hz3 : (cp : Int) < (n : Int) + 1 := by omega
  have hw1 : IntKind.i64.wrap ((i : Int) + 1) = (i : Int) + 1 := by rw [IntKind.wrap_i64]; omega
  have hb1 : (0 : Int) ≤ (i : Int) + 1 := by omega
  have hin : i ≤ n := by omega
  have htn : ((i : Int) + 1).toNat = i + 1 := by omega
  have hb3 : (i : Int) ≤ (n : Int) + 1 := by omega
  have hb4 : (i : Int) ≤ (n : Int) := by omega
  unfold maxLen at hGm
  clear hWC hWB hWA hNB hG hROW hC1 hl1 hgA hgB hoA hoB hvA hm1 hm2 hdl htl hold hik hRs hRt hi0 hz0 hzs hzb i0
  revert HP
  generalize InsP 147 2 Seat.cs w (.slice (some ⟨g, 0, none⟩) n cp) (l.take i ++ x :: l.drop i) = PP
  intro HP
  go_enter Tryz.func106, Tryz.ntmps106
  go_wp2_with (first
    | (at_builtin; refine wpList_app3 rfl _ _ _ _ rfl _ _ rfl rfl _ _ (hrz _) ?_)
    | (at_builtin; refine wpList_copyN _ rfl _ _ 109 108 rfl _ _ rfl rfl (hcpA _ _) ?_))
  go_region_law (refine step_copyN rfl _ _ 109 109 rfl _ _ (by simp [Act.eval, Act.put]) (by simp [Act.eval, Act.put]) (hcpB _ _ _) ?_)
  go_wp2
  all_goals first | exact HP.out | (go_ret; exact HP.out)
/-- slices.Insert, everywhere. -/
theorem ins_anys (w : World) (v : Value) (l : List Seat) (i : Nat) (vb : Nat) (x : Seat) (hv : RowS w v l) (hi : i ≤ l.length) (hl : l.length ≤ 4000000000000) (hvb : w.heap[vb]? = some (.cells x.cs.toArray 147 (0, 0))) (hne : v.ownBlock ≠ some vb) :
    Calls Tryz.prog 106 #[v, .int .i64 i, .slice (some ⟨vb, 0, none⟩) 1 1] w (InsP 147 2 Seat.cs w v (l.take i ++ x :: l.drop i)) := by
  by_cases e : i = l.length
  · subst e
    rw [List.take_length, List.drop_length]
    exact ins_ends w v l vb x hv hl hvb
  · rcases hv.two with ⟨rfl, rfl⟩ | ⟨g, cap, cur, rfl, _, h1, h2, h3, h4, h5, h6⟩
    · simp at hi e; omega
    · by_cases hr : l.length + 1 ≤ cap
      · exact ins_shifts w g l.length cap i l cur vb x rfl (by omega) hr h4 hl h2 h5 h6 hvb (fun h => hne (by rw [h]; rfl))
      · exact ins_grows w g l.length cap i l cur vb x rfl (by omega) h3 (by omega) h4 hl h2 h5 h6 hvb
end Go.Proofs.YtcjanaldjokllaaGreat
