/- The contract of Store.Next: the first cell with a content in a rectangle, behind another cell; none, if there is none. New memory alone is made. -/
import Derived.Test.YtaafpfjmnhmalaaS10
namespace Go.Proofs.Ytaafpfjmnhmalaa
open Go.RowKit
set_option linter.all false
/-- An item in the rectangle and behind the cell. -/
def pN (t l b rr ar ac : Int) (x : It) : Bool := inB t l b rr x.r x.c && befB ar ac x.r x.c
theorem pN_is (t l b rr ar ac : Int) (x : It) : pN t l b rr ar ac x = true ↔ (t ≤ x.r ∧ x.r ≤ b ∧ l ≤ x.c ∧ x.c ≤ rr) ∧ (ar < x.r ∨ (ar = x.r ∧ ac < x.c)) := by simp [pN, inB, befB]
def nextV (L : List It) (t l b rr ar ac : Int) : Value := match L.find? (pN t l b rr ar ac) with | some x => .tuple #[.agg #[.int .i64 x.r, .int .i64 x.c], .bool true] | none => .tuple #[.agg #[.int .i64 0, .int .i64 0], .bool false]
theorem idx_below {l : List Sp} {a : Int} (hS : Srt l) {t : Nat} {s : Sp} (ht : l[t]? = some s) (ha : a ≤ s.c) : idxS l a ≤ t := by
  apply Classical.byContradiction
  intro q
  have h1 : (l.take (idxS l a))[t]? = some s := by rw [List.getElem?_take_of_lt (by omega)]; exact ht
  rw [take_idx hS] at h1
  have := lo_lt (List.mem_of_getElem? h1)
  omega
theorem idx_above {l : List Sp} {a : Int} (hS : Srt l) {s : Sp} (ht : l[idxS l a]? = some s) : a ≤ s.c := by
  cases h : hasS l a
  · have h1 : (l.drop (idxS l a))[0]? = some s := by rw [List.getElem?_drop]; exact ht
    rw [drop_idx hS h] at h1
    have := hi_gt (List.mem_of_getElem? h1)
    omega
  · have := at_idx hS h
    rw [ht] at this
    injection this with this
    rw [this]
    exact Int.le_refl _
theorem srt_le {l : List Sp} (hS : Srt l) {i j : Nat} {x y : Sp} (hx : l[i]? = some x) (hy : l[j]? = some y) (h : i ≤ j) : x.c ≤ y.c := by
  by_cases e : i = j
  · subst e; rw [hx] at hy; injection hy with hy; subst hy; exact Int.le_refl _
  · obtain ⟨l1, rfl⟩ := List.getElem?_eq_some_iff.1 hx
    obtain ⟨l2, rfl⟩ := List.getElem?_eq_some_iff.1 hy
    have := List.pairwise_iff_getElem.1 hS i j l1 l2 (by omega)
    omega
theorem first_some {l : List Sp} {a b c : Int} (hS : Srt l) (h : firstS l a b = some c) : (∃ s ∈ l, s.c = c) ∧ a ≤ c ∧ c ≤ b ∧ ∀ s ∈ l, a ≤ s.c → c ≤ s.c := by
  unfold firstS at h
  cases hx : l[idxS l a]? with
  | none => rw [hx] at h; cases h
  | some x =>
    rw [hx] at h
    by_cases q : x.c ≤ b
    · simp [q] at h
      subst h
      refine ⟨⟨x, List.mem_of_getElem? hx, rfl⟩, idx_above hS hx, q, fun s hs ha => ?_⟩
      obtain ⟨t, ht⟩ := List.getElem?_of_mem hs
      exact srt_le hS hx ht (idx_below hS ht ha)
    · simp [q] at h
theorem first_none {l : List Sp} {a b : Int} (hS : Srt l) (h : firstS l a b = none) : ∀ s ∈ l, a ≤ s.c → b < s.c := by
  intro s hs ha
  obtain ⟨t, ht⟩ := List.getElem?_of_mem hs
  have hle := idx_below hS ht ha
  have hlt := (List.getElem?_eq_some_iff.1 ht).1
  have hx : l[idxS l a]? = some (l[idxS l a]'(by omega)) := List.getElem?_eq_getElem (by omega)
  unfold firstS at h
  rw [hx] at h
  have h2 := srt_le hS hx ht hle
  by_cases q : (l[idxS l a]'(by omega)).c ≤ b
  · simp [q] at h
  · omega
section
variable {L : List It} {t l b rr ar ac n : Int}
theorem fit_row (hin : InS L) {x : It} (hx : x ∈ L) (hr : x.r = n) (h1 : t ≤ n) (h2 : n ≤ b) (h3 : ar ≤ n) : pN t l b rr ar ac x = true ↔ leftI l ar ac n ≤ x.c ∧ x.c ≤ rr := by
  have := hin x hx
  rw [pN_is]
  unfold leftI
  split <;> omega
theorem next_found (hs : SrtI L) (hin : InS L) (h1 : t ≤ n) (h2 : n ≤ b) (h3 : ar ≤ n) (hall : ∀ x ∈ L, pN t l b rr ar ac x = true → n ≤ x.r) {c : Int} (hf : firstS (rowL L n) (leftI l ar ac n) rr = some c) : nextV L t l b rr ar ac = .tuple #[.agg #[.int .i64 n, .int .i64 c], .bool true] := by
  obtain ⟨⟨s, s1, rfl⟩, s2, s3, s4⟩ := first_some (row_srt hs n) hf
  have hx := mem_row.1 s1
  have e : L.find? (pN t l b rr ar ac) = some ⟨n, s.c, s.v⟩ := by
    refine find_is hs _ hx ((fit_row hin hx rfl h1 h2 h3).2 ⟨s2, s3⟩) (fun y hy hp hlt => ?_)
    have h4 := hall y hy hp
    unfold ltI at hlt
    simp at hlt
    have h5 : y.r = n := by omega
    have h6 := (fit_row hin hy h5 h1 h2 h3).1 hp
    have h7 := s4 ⟨y.c, y.v⟩ (mem_row.2 (by rw [← h5]; exact hy)) h6.1
    simp at h7
    omega
  unfold nextV
  rw [e]
theorem next_row (hs : SrtI L) (hin : InS L) (h1 : t ≤ n) (h2 : n ≤ b) (h3 : ar ≤ n) (hall : ∀ x ∈ L, pN t l b rr ar ac x = true → n ≤ x.r) (hf : firstS (rowL L n) (leftI l ar ac n) rr = none) : ∀ x ∈ L, pN t l b rr ar ac x = true → n + 1 ≤ x.r := by
  intro x hx hp
  have h4 := hall x hx hp
  apply Classical.byContradiction
  intro q
  have h5 : x.r = n := by omega
  have h6 := (fit_row hin hx h5 h1 h2 h3).1 hp
  have h7 := first_none (row_srt hs n) hf ⟨x.c, x.v⟩ (mem_row.2 (by rw [← h5]; exact hx)) h6.1
  simp at h7
  omega
theorem next_chunk (hall : ∀ x ∈ L, pN t l b rr ar ac x = true → n ≤ x.r) {i j : Nat} (hn : n = ((i * 64 + j + 1 : Nat) : Int)) (hrow : ∀ j, j < 64 → rowL L ((i * 64 + j + 1 : Nat) : Int) = []) : ∀ x ∈ L, pN t l b rr ar ac x = true → ((i : Int) + 1) * 64 + 1 ≤ x.r := by
  intro x hx hp
  have h4 := hall x hx hp
  apply Classical.byContradiction
  intro q
  obtain ⟨m, hm, e⟩ : ∃ m : Nat, m < 64 ∧ x.r = ((i * 64 + m + 1 : Nat) : Int) := ⟨(x.r - i * 64 - 1).toNat, by omega, by omega⟩
  have h5 : (⟨x.c, x.v⟩ : Sp) ∈ rowL L ((i * 64 + m + 1 : Nat) : Int) := mem_row.2 (by rw [← e]; exact hx)
  rw [hrow m hm] at h5
  cases h5
theorem next_end (hin : InS L) (hall : ∀ x ∈ L, pN t l b rr ar ac x = true → n ≤ x.r) (hn : min b 4096 < n) : nextV L t l b rr ar ac = .tuple #[.agg #[.int .i64 0, .int .i64 0], .bool false] := by
  have e : L.find? (pN t l b rr ar ac) = none := find_no (fun x hx hp => by
    have h1 := hall x hx hp
    have h2 := hin x hx
    have h3 := (pN_is _ _ _ _ _ _ _).1 hp
    omega)
  unfold nextV
  rw [e]
end
theorem run_max3 (a b : Int) (w : World) : (Builtin.max_ #[3, 3, 3] 3 #[.int .i64 a, .int .i64 b, .int .i64 1]).run Try.prog w = .ok (.int .i64 (max (max a b) 1)) w := by
  by_cases h1 : a < b
  · have e1 : max a b = b := by omega
    rw [e1]
    by_cases h2 : b < 1
    · have e2 : max b 1 = 1 := by omega
      rw [e2]; simp [Builtin.max_, Builtin.max2, h1, h2]
    · have e2 : max b 1 = b := by omega
      rw [e2]; simp [Builtin.max_, Builtin.max2, h1, h2]
  · have e1 : max a b = a := by omega
    rw [e1]
    by_cases h2 : a < 1
    · have e2 : max a 1 = 1 := by omega
      rw [e2]; simp [Builtin.max_, Builtin.max2, h1, h2]
    · have e2 : max a 1 = a := by omega
      rw [e2]; simp [Builtin.max_, Builtin.max2, h1, h2]
theorem run_min2 (b : Int) (w : World) : (Builtin.min_ #[3, 3] 3 #[.int .i64 b, .int .i64 4096]).run Try.prog w = .ok (.int .i64 (min b 4096)) w := by
  by_cases h1 : b < 4096
  · have e1 : min b 4096 = b := by omega
    rw [e1]; simp [Builtin.min_, Builtin.min2]; try omega
  · have e1 : min b 4096 = 4096 := by omega
    rw [e1]; simp [Builtin.min_, Builtin.min2]; try omega
set_option maxRecDepth 100000 in
set_option maxHeartbeats 4000000 in
theorem next_any (w : World) (D : Nat → Option Nat) (S : Nat) (L : List It) (t l b rr ar ac : Int) (h : Hid (SW w D S L)) (it : I64 t) (il : I64 l) (ib : I64 b) (ir : I64 rr) (iar : I64 ar) (iac : I64 ac) :
    Calls Try.prog 17 #[.pointer (some ⟨S, 0, none⟩), .agg #[.int .i64 t, .int .i64 l, .int .i64 b, .int .i64 rr], .agg #[.int .i64 ar, .int .i64 ac]] w fun e w' => e = .returned (nextV L t l b rr ar ac) ∧ Below w.heap.size w w' := by
  have mixed : Try.prog.follows .mixedOrders = true := by kernel_rfl
  have hmx := run_max3 t ar
  have hmn := run_min2 b
  obtain ⟨n0, hn0⟩ : ∃ n0, n0 = max (max t ar) 1 := ⟨_, rfl⟩
  obtain ⟨lst, hls⟩ : ∃ lst, lst = min b 4096 := ⟨_, rfl⟩
  rw [← hn0] at hmx
  rw [← hls] at hmn
  have HN0 : Hid (n0 = max (max t ar) 1) := hn0
  have HLS : Hid (lst = min b 4096) := hls
  clear hn0 hls
  go_enter Try.func17, Try.ntmps17
  go_wp2
  clear hmx hmn
  go_loopw [9] (fun v w' => ∃ n : Int, v = .int .i64 n ∧ Hid (n0 ≤ n) ∧ Hid (∀ x ∈ L, pN t l b rr ar ac x = true → n ≤ x.r) ∧ Below w.heap.size w w' ∧ Own w' w.heap.size #[.int .i64 t, .int .i64 l, .int .i64 b, .int .i64 rr] ∧ Own w' (w.heap.size + 1) #[.int .i64 ar, .int .i64 ac] ∧ Own w' (w.heap.size + 1 + 1) #[.int .i64 0, .int .i64 0]) (fun v _ => (4097 - intOf v).toNat)
  case atStart =>
    refine ⟨n0, rfl, Int.le_refl _, (show Hid _ from fun x hx hp => ?_), by with_reducible (repeat' first | assumption | exact Below.refl _ _ | refine Below.drew ?_ | refine bdrewN ?_ _ | refine Below.setCell ?_ (by first | exact Nat.le_refl _ | (simp; done) | (simp; omega) | omega) _ | refine Below.alloc ?_ (by first | exact Nat.le_refl _ | (simp; done) | (simp; omega) | omega) _), by with_reducible (repeat' first | assumption | refine Own.drew ?_ | refine Own.drewN ?_ _ | (refine Own.at ?_; first | rfl | (simp; done)) | refine Own.past ?_ _), by with_reducible (repeat' first | assumption | refine Own.drew ?_ | refine Own.drewN ?_ _ | (refine Own.at ?_; first | rfl | (simp; done)) | refine Own.past ?_ _), by with_reducible (repeat' first | assumption | refine Own.drew ?_ | refine Own.drewN ?_ _ | (refine Own.at ?_; first | rfl | (simp; done)) | refine Own.past ?_ _)⟩
    have h1 := (pN_is _ _ _ _ _ _ _).1 hp
    have h2 := h.out.ins x hx
    have h3 := HN0.out
    omega
  case round =>
    obtain ⟨n, rfl, hge, hall, hB3, o3, o4, o5⟩ := hrel
    have z3 := hB3.size
    by_cases hlt : n ≤ lst
    · have hn1 : 1 ≤ n ∧ n ≤ 4096 ∧ t ≤ n ∧ ar ≤ n ∧ n ≤ b := by have q1 := HLS.out; have q2 := HN0.out; have q3 := hge.out; omega
      obtain ⟨hn1, hn2, hn3, hn4, hn5⟩ := hn1
      obtain ⟨i, j, hi, hj, hij0⟩ := row_of hn1 hn2
      have hij : Hid (n = ((i * 64 + j + 1 : Nat) : Int)) := hij0
      clear hij0
      have hi' : (i : Int) < 64 := by omega
      have hj' : (j : Int) < 64 := by omega
      obtain ⟨A, a1, a2, a3, a4⟩ := h.out.own
      obtain ⟨v, v1, v2⟩ := a4 i hi
      have h1 := a1.lt
      have h2' := (a1.cell i).trans v1
      have y0 := (hB3.cell (p := ⟨S, i, none⟩) h1).trans h2'
      have c3 := o3.cell
      have f3 := o3.fro
      have l3 := o3.lt
      have c4 := o4.cell
      have f4 := o4.fro
      have l4 := o4.lt
      clear a1 a2 a3 a4 v1
      rcases v2 with ⟨rfl, v2⟩ | ⟨kb, B, rfl, b1, b2, b3, b4⟩
      · have HC : Hid (∀ x ∈ L, pN t l b rr ar ac x = true → ((i : Int) + 1) * 64 + 1 ≤ x.r) := (show _ from next_chunk hall.out hij.out v2)
        have hle : Hid (n0 ≤ ((i : Int) + 1) * 64 + 1) := (show n0 ≤ ((i : Int) + 1) * 64 + 1 from by have q1 := hij.out; have q2 := hge.out; omega)
        have hms : Hid (n < ((i : Int) + 1) * 64 + 1) := (show n < ((i : Int) + 1) * 64 + 1 from by have q1 := hij.out; omega)
        clear v2 h2'
        go_wp2_with (first | (go_at_call 28; refine (split_ij _ i j n hi hj hij.out).mono ?_; rintro e w5 ⟨rfl, h5⟩; have h6 := h5.symm; subst h6) | (go_at_call 31; refine (last_any _ _ (by omega) (by omega)).mono ?_; rintro e w5 ⟨rfl, h5⟩; have h6 := h5.symm; subst h6))
        exact ⟨⟨((i : Int) + 1) * 64 + 1, rfl, hle, HC, by with_reducible (repeat' first | assumption | exact Below.refl _ _ | refine Below.drew ?_ | refine bdrewN ?_ _ | refine Below.setCell ?_ (by first | exact Nat.le_refl _ | (simp; done) | (simp; omega) | omega) _ | refine Below.alloc ?_ (by first | exact Nat.le_refl _ | (simp; done) | (simp; omega) | omega) _), o3, o4, o5⟩, by have := hms.out; simp [intOf]; omega⟩
      · obtain ⟨u, u1, u2, u3⟩ := b4 j hj
        have hsl : ∃ q m cp, u = .slice q m cp := by rcases u2.two with ⟨rfl, _⟩ | ⟨g, cap, cur, rfl, _⟩ <;> exact ⟨_, _, _, rfl⟩
        obtain ⟨q, m, cp, rfl⟩ := hsl
        have h3 := b2.lt
        have h4 := (b2.cell j).trans u1
        have h2 := h2'
        have y1 := (hB3.cell (p := ⟨kb, j, none⟩) h3).trans h4
        rw [← hij.out] at u2
        have HR : Hid (RowW w (.slice q m cp) (rowL L n)) := u2
        have hl : (rowL L n).length ≤ 1099511627776 := by have := row_few h.out.srt h.out.ins n; omega
        have hS : Hid (Srt (rowL L n)) := row_srt h.out.srt n
        clear b1 b2 b3 b4 u1 u2 u3 h2'
        cases hf : firstS (rowL L n) (leftI l ar ac n) rr with
        | none =>
          have HK : Hid (∀ w1, Below w.heap.size w w1 → Calls Try.prog 32 #[.slice q m cp, .int .i64 (leftI l ar ac n), .int .i64 rr] w1 fun e w' => e = .returned (.tuple #[.int .i64 0, .bool false]) ∧ Below w1.heap.size w1 w') := fun w1 hb => first_no w1 _ _ _ _ (show Hid _ from HR.out.keep hb) hl hS hf
          have HC : Hid (∀ x ∈ L, pN t l b rr ar ac x = true → n + 1 ≤ x.r) := (show _ from next_row h.out.srt h.out.ins hn3 hn5 hn4 hall.out hf)
          clear hf hS hl HR
          go_wp2_with (go_at_call 28; refine (split_ij _ i j n hi hj hij.out).mono ?_; rintro e w5 ⟨rfl, h5⟩; have h6 := h5.symm; subst h6)
          go_region_held3 (fun w' => w'.cell? ⟨S, i, none⟩ = some (.pointer (some ⟨kb, 0, none⟩)) ∧ w'.cell? ⟨kb, j, none⟩ = some (.slice q m cp) ∧ w'.cell? ⟨w.heap.size, 0, none⟩ = some (.int .i64 t) ∧ w'.cell? ⟨w.heap.size, 1, none⟩ = some (.int .i64 l) ∧ w'.cell? ⟨w.heap.size, 2, none⟩ = some (.int .i64 b) ∧ w'.cell? ⟨w.heap.size, 3, none⟩ = some (.int .i64 rr) ∧ w'.cell? ⟨w.heap.size + 1, 0, none⟩ = some (.int .i64 ar) ∧ w'.cell? ⟨w.heap.size + 1, 1, none⟩ = some (.int .i64 ac)) ((repeat' apply And.intro) <;> (first | (go_keep; done) | (go_simp; done))) (first | (go_at_call 33; refine (left_any _ _ _ _ _ _ _ _ iac il).mono ?_; rintro e wa ⟨rfl, hbwa⟩; have hBwa : Below w.heap.size w wa := bup (by with_reducible (repeat' first | assumption | exact Below.refl _ _ | refine Below.drew ?_ | refine bdrewN ?_ _ | refine Below.setCell ?_ (by first | exact Nat.le_refl _ | (simp; done) | (simp; omega) | omega) _ | refine Below.alloc ?_ (by first | exact Nat.le_refl _ | (simp; done) | (simp; omega) | omega) _)) hbwa; have d0 := (hBwa.cell (p := ⟨S, i, none⟩) h1).trans h2; have d1 := (hBwa.cell (p := ⟨kb, j, none⟩) h3).trans h4; have oa0 : Own wa w.heap.size #[.int .i64 t, .int .i64 l, .int .i64 b, .int .i64 rr] := Own.keep (by with_reducible (repeat' first | assumption | refine Own.drew ?_ | refine Own.drewN ?_ _ | (refine Own.at ?_; first | rfl | (simp; done)) | refine Own.past ?_ _)) hbwa; have oa1 : Own wa (w.heap.size + 1) #[.int .i64 ar, .int .i64 ac] := Own.keep (by with_reducible (repeat' first | assumption | refine Own.drew ?_ | refine Own.drewN ?_ _ | (refine Own.at ?_; first | rfl | (simp; done)) | refine Own.past ?_ _)) hbwa; have oa2 : Own wa (w.heap.size + 1 + 1) #[.int .i64 0, .int .i64 0] := Own.keep (by with_reducible (repeat' first | assumption | refine Own.drew ?_ | refine Own.drewN ?_ _ | (refine Own.at ?_; first | rfl | (simp; done)) | refine Own.past ?_ _)) hbwa; have ca0 := oa0.cell; have ca1 := oa1.cell; have la0 := oa0.lt; have la1 := oa1.lt; have za := hBwa.size; clear c3 c4 f3 f4 l3 l4) | (go_at_call 32; refine (HK.out _ (by with_reducible (repeat' first | assumption | exact Below.refl _ _ | refine Below.drew ?_ | refine bdrewN ?_ _ | refine Below.setCell ?_ (by first | exact Nat.le_refl _ | (simp; done) | (simp; omega) | omega) _ | refine Below.alloc ?_ (by first | exact Nat.le_refl _ | (simp; done) | (simp; omega) | omega) _))).mono ?_; rintro e wb ⟨rfl, hbwb⟩; have hBwb : Below w.heap.size w wb := bup (by with_reducible (repeat' first | assumption | exact Below.refl _ _ | refine Below.drew ?_ | refine bdrewN ?_ _ | refine Below.setCell ?_ (by first | exact Nat.le_refl _ | (simp; done) | (simp; omega) | omega) _ | refine Below.alloc ?_ (by first | exact Nat.le_refl _ | (simp; done) | (simp; omega) | omega) _)) hbwb; have e0 := (hBwb.cell (p := ⟨S, i, none⟩) h1).trans h2; have e1 := (hBwb.cell (p := ⟨kb, j, none⟩) h3).trans h4; have ob0 : Own wb w.heap.size #[.int .i64 t, .int .i64 l, .int .i64 b, .int .i64 rr] := Own.keep (by with_reducible (repeat' first | assumption | refine Own.drew ?_ | refine Own.drewN ?_ _ | (refine Own.at ?_; first | rfl | (simp; done)) | refine Own.past ?_ _)) hbwb; have ob1 : Own wb (w.heap.size + 1) #[.int .i64 ar, .int .i64 ac] := Own.keep (by with_reducible (repeat' first | assumption | refine Own.drew ?_ | refine Own.drewN ?_ _ | (refine Own.at ?_; first | rfl | (simp; done)) | refine Own.past ?_ _)) hbwb; have ob2 : Own wb (w.heap.size + 1 + 1) #[.int .i64 0, .int .i64 0] := Own.keep (by with_reducible (repeat' first | assumption | refine Own.drew ?_ | refine Own.drewN ?_ _ | (refine Own.at ?_; first | rfl | (simp; done)) | refine Own.past ?_ _)) hbwb; have cb0 := ob0.cell; have cb1 := ob1.cell; have cb2 := ob2.cell; have fb2 := ob2.fro; have lb2 := ob2.lt; have zb := hBwb.size))
          all_goals go_wp2
          all_goals exact ⟨⟨n + 1, rfl, (show n0 ≤ n + 1 from by have := hge.out; omega), HC, by with_reducible (repeat' first | assumption | exact Below.refl _ _ | refine Below.drew ?_ | refine bdrewN ?_ _ | refine Below.setCell ?_ (by first | exact Nat.le_refl _ | (simp; done) | (simp; omega) | omega) _ | refine Below.alloc ?_ (by first | exact Nat.le_refl _ | (simp; done) | (simp; omega) | omega) _), by with_reducible (repeat' first | assumption | refine Own.drew ?_ | refine Own.drewN ?_ _ | (refine Own.at ?_; first | rfl | (simp; done)) | refine Own.past ?_ _), by with_reducible (repeat' first | assumption | refine Own.drew ?_ | refine Own.drewN ?_ _ | (refine Own.at ?_; first | rfl | (simp; done)) | refine Own.past ?_ _), by with_reducible (repeat' first | assumption | refine Own.drew ?_ | refine Own.drewN ?_ _ | (refine Own.at ?_; first | rfl | (simp; done)) | refine Own.past ?_ _)⟩, by simp [intOf]; omega⟩
        | some cc =>
          have HK : Hid (∀ w1, Below w.heap.size w w1 → Calls Try.prog 32 #[.slice q m cp, .int .i64 (leftI l ar ac n), .int .i64 rr] w1 fun e w' => e = .returned (.tuple #[.int .i64 cc, .bool true]) ∧ Below w1.heap.size w1 w') := fun w1 hb => first_yes w1 _ _ _ _ _ (show Hid _ from HR.out.keep hb) hl hS hf
          have HV : Hid (nextV L t l b rr ar ac = .tuple #[.agg #[.int .i64 n, .int .i64 cc], .bool true]) := (show _ from next_found h.out.srt h.out.ins hn3 hn5 hn4 hall.out hf)
          clear hf hS hl HR
          go_wp2_with (go_at_call 28; refine (split_ij _ i j n hi hj hij.out).mono ?_; rintro e w5 ⟨rfl, h5⟩; have h6 := h5.symm; subst h6)
          go_region_held3 (fun w' => w'.cell? ⟨S, i, none⟩ = some (.pointer (some ⟨kb, 0, none⟩)) ∧ w'.cell? ⟨kb, j, none⟩ = some (.slice q m cp) ∧ w'.cell? ⟨w.heap.size, 0, none⟩ = some (.int .i64 t) ∧ w'.cell? ⟨w.heap.size, 1, none⟩ = some (.int .i64 l) ∧ w'.cell? ⟨w.heap.size, 2, none⟩ = some (.int .i64 b) ∧ w'.cell? ⟨w.heap.size, 3, none⟩ = some (.int .i64 rr) ∧ w'.cell? ⟨w.heap.size + 1, 0, none⟩ = some (.int .i64 ar) ∧ w'.cell? ⟨w.heap.size + 1, 1, none⟩ = some (.int .i64 ac)) ((repeat' apply And.intro) <;> (first | (go_keep; done) | (go_simp; done))) (first | (go_at_call 33; refine (left_any _ _ _ _ _ _ _ _ iac il).mono ?_; rintro e wa ⟨rfl, hbwa⟩; have hBwa : Below w.heap.size w wa := bup (by with_reducible (repeat' first | assumption | exact Below.refl _ _ | refine Below.drew ?_ | refine bdrewN ?_ _ | refine Below.setCell ?_ (by first | exact Nat.le_refl _ | (simp; done) | (simp; omega) | omega) _ | refine Below.alloc ?_ (by first | exact Nat.le_refl _ | (simp; done) | (simp; omega) | omega) _)) hbwa; have d0 := (hBwa.cell (p := ⟨S, i, none⟩) h1).trans h2; have d1 := (hBwa.cell (p := ⟨kb, j, none⟩) h3).trans h4; have oa0 : Own wa w.heap.size #[.int .i64 t, .int .i64 l, .int .i64 b, .int .i64 rr] := Own.keep (by with_reducible (repeat' first | assumption | refine Own.drew ?_ | refine Own.drewN ?_ _ | (refine Own.at ?_; first | rfl | (simp; done)) | refine Own.past ?_ _)) hbwa; have oa1 : Own wa (w.heap.size + 1) #[.int .i64 ar, .int .i64 ac] := Own.keep (by with_reducible (repeat' first | assumption | refine Own.drew ?_ | refine Own.drewN ?_ _ | (refine Own.at ?_; first | rfl | (simp; done)) | refine Own.past ?_ _)) hbwa; have oa2 : Own wa (w.heap.size + 1 + 1) #[.int .i64 0, .int .i64 0] := Own.keep (by with_reducible (repeat' first | assumption | refine Own.drew ?_ | refine Own.drewN ?_ _ | (refine Own.at ?_; first | rfl | (simp; done)) | refine Own.past ?_ _)) hbwa; have ca0 := oa0.cell; have ca1 := oa1.cell; have la0 := oa0.lt; have la1 := oa1.lt; have za := hBwa.size; clear c3 c4 f3 f4 l3 l4) | (go_at_call 32; refine (HK.out _ (by with_reducible (repeat' first | assumption | exact Below.refl _ _ | refine Below.drew ?_ | refine bdrewN ?_ _ | refine Below.setCell ?_ (by first | exact Nat.le_refl _ | (simp; done) | (simp; omega) | omega) _ | refine Below.alloc ?_ (by first | exact Nat.le_refl _ | (simp; done) | (simp; omega) | omega) _))).mono ?_; rintro e wb ⟨rfl, hbwb⟩; have hBwb : Below w.heap.size w wb := bup (by with_reducible (repeat' first | assumption | exact Below.refl _ _ | refine Below.drew ?_ | refine bdrewN ?_ _ | refine Below.setCell ?_ (by first | exact Nat.le_refl _ | (simp; done) | (simp; omega) | omega) _ | refine Below.alloc ?_ (by first | exact Nat.le_refl _ | (simp; done) | (simp; omega) | omega) _)) hbwb; have e0 := (hBwb.cell (p := ⟨S, i, none⟩) h1).trans h2; have e1 := (hBwb.cell (p := ⟨kb, j, none⟩) h3).trans h4; have ob0 : Own wb w.heap.size #[.int .i64 t, .int .i64 l, .int .i64 b, .int .i64 rr] := Own.keep (by with_reducible (repeat' first | assumption | refine Own.drew ?_ | refine Own.drewN ?_ _ | (refine Own.at ?_; first | rfl | (simp; done)) | refine Own.past ?_ _)) hbwb; have ob1 : Own wb (w.heap.size + 1) #[.int .i64 ar, .int .i64 ac] := Own.keep (by with_reducible (repeat' first | assumption | refine Own.drew ?_ | refine Own.drewN ?_ _ | (refine Own.at ?_; first | rfl | (simp; done)) | refine Own.past ?_ _)) hbwb; have ob2 : Own wb (w.heap.size + 1 + 1) #[.int .i64 0, .int .i64 0] := Own.keep (by with_reducible (repeat' first | assumption | refine Own.drew ?_ | refine Own.drewN ?_ _ | (refine Own.at ?_; first | rfl | (simp; done)) | refine Own.past ?_ _)) hbwb; have cb0 := ob0.cell; have cb1 := ob1.cell; have cb2 := ob2.cell; have fb2 := ob2.fro; have lb2 := ob2.lt; have zb := hBwb.size))
          all_goals go_wp2
          all_goals (
            have o9 := own_put (k := 1) (x := .int .i64 cc) (own_put (k := 0) (x := .int .i64 n) ob2 (by simp)) (by simp)
            have c9 := o9.cell
            exact bodyPost_ret (v := .tuple #[.agg #[.int .i64 n, .int .i64 cc], .bool true]) (by simp [results, Try.results17, go_sem, c9]) rfl ⟨by rw [HV.out], by with_reducible (repeat' first | assumption | exact Below.refl _ _ | refine Below.drew ?_ | refine bdrewN ?_ _ | refine Below.setCell ?_ (by first | exact Nat.le_refl _ | (simp; done) | (simp; omega) | omega) _ | refine Below.alloc ?_ (by first | exact Nat.le_refl _ | (simp; done) | (simp; omega) | omega) _)⟩)
    · have HV : Hid (nextV L t l b rr ar ac = .tuple #[.agg #[.int .i64 0, .int .i64 0], .bool false]) := (show _ from next_end h.out.ins hall.out (by have := HLS.out; omega))
      have c5 := o5.cell
      have f5 := o5.fro
      have l5 := o5.lt
      go_wp2
      have c9 := o5.cell
      exact bodyPost_ret (v := .tuple #[.agg #[.int .i64 0, .int .i64 0], .bool false]) (by simp [results, Try.results17, go_sem, c9]) rfl ⟨by rw [HV.out], by with_reducible (repeat' first | assumption | exact Below.refl _ _ | refine Below.drew ?_ | refine bdrewN ?_ _ | refine Below.setCell ?_ (by first | exact Nat.le_refl _ | (simp; done) | (simp; omega) | omega) _ | refine Below.alloc ?_ (by first | exact Nat.le_refl _ | (simp; done) | (simp; omega) | omega) _)⟩
end Go.Proofs.Ytaafpfjmnhmalaa
