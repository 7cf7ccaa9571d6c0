/- Who looks over a place, by the pairs in their order. No function's text is walked here. · The contract of All. New memory alone is made. · The contract of Over. New memory alone is made. -/
import Derived.Test.YtcjanaldjokllaaGreatQCRCB
import Derived.Deep.AppendLies
import Derived.Test.YtcjanaldjokllaaGreatQBDsBGs
import Derived.WalkMore
namespace Go.Proofs.YtcjanaldjokllaaGreat
open Go.RowKit
set_option linter.all false
def ltCl (a b : Cl) : Prop := a.r < b.r ∨ (a.r = b.r ∧ a.c < b.c)
theorem ltCl_irr (a : Cl) : ¬ ltCl a a := by unfold ltCl; omega
theorem ltCl_asy (a b : Cl) (h : ltCl a b) : ¬ ltCl b a := by unfold ltCl at *; omega
def inP (x y : Int) (p : Pr) : Bool := inB p.t p.l p.b p.q x y
def Pr.cl (p : Pr) : Cl := ⟨p.r, p.c⟩
def lastIs (acc : List Cl) (z : Cl) : Bool := match acc.getLast? with | some u => sameC u.r u.c z.r z.c | none => false
def stepO (x y : Int) (acc : List Cl) (p : Pr) : List Cl := if inP x y p && !lastIs acc p.cl then acc ++ [p.cl] else acc
def overP (P : List Pr) (x y : Int) : List Cl := P.foldl (stepO x y) []
theorem cl_eq {a b : Cl} (h1 : a.r = b.r) (h2 : a.c = b.c) : a = b := by cases a; cases b; simp_all
theorem over_inv (x y : Int) : ∀ (P : List Pr) (acc : List Cl), SrtP P → acc.Pairwise ltCl → (∀ z ∈ acc, ∀ p ∈ P, ltCl z p.cl ∨ z = p.cl) →
    (P.foldl (stepO x y) acc).Pairwise ltCl ∧ ∀ z, z ∈ P.foldl (stepO x y) acc ↔ (z ∈ acc ∨ ∃ p ∈ P, inP x y p = true ∧ z = p.cl)
  | [], acc, _, h2, _ => ⟨h2, fun z => by simp⟩
  | p :: t, acc, h1, h2, h3 => by
    have h1' := List.pairwise_cons.1 h1
    rw [List.foldl_cons]
    have hple : ∀ q ∈ t, ltCl p.cl q.cl ∨ p.cl = q.cl := fun q hq => by
      rcases (cmpP_neg p q).1 (h1'.1 q hq) with e | ⟨e, _⟩
      · exact .inl e
      · exact .inr (cl_eq e.1 e.2)
    by_cases hin : inP x y p = true
    · cases hl : lastIs acc p.cl
      · have e : stepO x y acc p = acc ++ [p.cl] := by unfold stepO; rw [hin, hl]; rfl
        rw [e]
        have hne : ∀ z ∈ acc, ltCl z p.cl := fun z hz => by
          rcases h3 z hz p (by simp) with q | q
          · exact q
          · exfalso
            cases hL : acc.getLast? with
            | none =>
              rw [List.getLast?_eq_none_iff] at hL
              subst hL; cases hz
            | some u =>
              unfold lastIs at hl
              rw [hL] at hl
              obtain ⟨pre, rfl⟩ := List.getLast?_eq_some_iff.1 hL
              rw [List.pairwise_append] at h2
              have hu := h3 u (by simp) p (by simp)
              have hn : ¬ (u.r = p.cl.r ∧ u.c = p.cl.c) := of_decide_eq_false hl
              rcases List.mem_append.1 hz with hz | hz
              · have := h2.2.2 z hz u (by simp)
                subst q
                rcases hu with hu | hu
                · exact ltCl_asy _ _ hu this
                · subst hu; exact ltCl_irr _ this
              · simp only [List.mem_singleton] at hz
                subst hz
                rw [q] at hn
                exact hn ⟨rfl, rfl⟩
        obtain ⟨a1, a2⟩ := over_inv x y t (acc ++ [p.cl]) h1'.2 (by
          rw [List.pairwise_append]
          refine ⟨h2, by simp, fun a ha b hb => ?_⟩
          simp only [List.mem_singleton] at hb
          subst hb
          exact hne a ha) (fun z hz q hq => by
          rcases List.mem_append.1 hz with hz | hz
          · exact h3 z hz q (List.mem_cons_of_mem _ hq)
          · simp only [List.mem_singleton] at hz
            subst hz
            exact hple q hq)
        refine ⟨a1, fun z => (a2 z).trans ?_⟩
        constructor
        · rintro (hz | ⟨q, hq, hq2⟩)
          · rcases List.mem_append.1 hz with hz | hz
            · exact .inl hz
            · simp only [List.mem_singleton] at hz
              exact .inr ⟨p, by simp, hin, hz⟩
          · exact .inr ⟨q, List.mem_cons_of_mem _ hq, hq2⟩
        · rintro (hz | ⟨q, hq, hq2, hq3⟩)
          · exact .inl (List.mem_append_left _ hz)
          · rcases List.mem_cons.1 hq with rfl | hq
            · exact .inl (List.mem_append_right _ (by simp [hq3]))
            · exact .inr ⟨q, hq, hq2, hq3⟩
      · have e : stepO x y acc p = acc := by unfold stepO; rw [hin, hl]; rfl
        rw [e]
        obtain ⟨a1, a2⟩ := over_inv x y t acc h1'.2 h2 (fun z hz q hq => h3 z hz q (List.mem_cons_of_mem _ hq))
        refine ⟨a1, fun z => (a2 z).trans ?_⟩
        constructor
        · rintro (hz | ⟨q, hq, hq2⟩)
          · exact .inl hz
          · exact .inr ⟨q, List.mem_cons_of_mem _ hq, hq2⟩
        · rintro (hz | ⟨q, hq, hq2, hq3⟩)
          · exact .inl hz
          · rcases List.mem_cons.1 hq with rfl | hq
            · refine .inl ?_
              unfold lastIs at hl
              cases hL : acc.getLast? with
              | none => rw [hL] at hl; cases hl
              | some u =>
                rw [hL] at hl
                have hu : u.r = q.cl.r ∧ u.c = q.cl.c := of_decide_eq_true hl
                rw [hq3, ← cl_eq hu.1 hu.2]
                exact List.mem_of_getLast? hL
            · exact .inr ⟨q, hq, hq2, hq3⟩
    · have e : stepO x y acc p = acc := by
        unfold stepO
        simp only [Bool.not_eq_true] at hin
        rw [hin]; rfl
      rw [e]
      obtain ⟨a1, a2⟩ := over_inv x y t acc h1'.2 h2 (fun z hz q hq => h3 z hz q (List.mem_cons_of_mem _ hq))
      refine ⟨a1, fun z => (a2 z).trans ?_⟩
      constructor
      · rintro (hz | ⟨q, hq, hq2⟩)
        · exact .inl hz
        · exact .inr ⟨q, List.mem_cons_of_mem _ hq, hq2⟩
      · rintro (hz | ⟨q, hq, hq2, hq3⟩)
        · exact .inl hz
        · rcases List.mem_cons.1 hq with rfl | hq
          · exact absurd hq2 hin
          · exact .inr ⟨q, hq, hq2, hq3⟩
theorem overP_srt {P : List Pr} (h : SrtP P) (x y : Int) : (overP P x y).Pairwise ltCl := (over_inv x y P [] h List.Pairwise.nil (fun z hz => by cases hz)).1
theorem overP_mem {P : List Pr} (h : SrtP P) (x y : Int) (z : Cl) : z ∈ overP P x y ↔ ∃ p ∈ P, inP x y p = true ∧ z = p.cl := by
  have := (over_inv x y P [] h List.Pairwise.nil (fun z hz => by cases hz)).2 z
  unfold overP
  rw [this]
  simp
def hitS (D : Nat → Option Tag) (P : List Pr) (x y : Int) (s : Seat) : Bool := (rectsAt P (rOf D s.g) (cOf D s.g)).any (fun q => inB q.t q.l q.b q.r x y)
def clS (D : Nat → Option Tag) (s : Seat) : Cl := ⟨rOf D s.g, cOf D s.g⟩
/-- Seat by seat of the band. -/
theorem over_seats {D : Nat → Option Tag} {K : KF} {l : List Seat} {n : Int → Int → Nat} {P : List Pr} (hs : SrtP P) (hm : ∀ p ∈ P, mayC p.r p.c = true ∧ mayR p.t p.l p.b p.q = true) {x y : Int} {bn : Nat} (hx : 1 ≤ x) (hb : (x - 1) / 64 = (bn : Int)) (h : CrowdOK D K l n) (hn : ∀ r c, n r c = cnt (bn + 1) P r c) : (l.filter (hitS D P x y)).map (clS D) = overP P x y := by
  refine uniq ltCl_irr ltCl_asy ?_ (overP_srt hs x y) (fun z => ?_)
  · rw [List.pairwise_map]
    exact List.Pairwise.imp (fun h => h) (List.Pairwise.filter _ h.srt)
  · rw [overP_mem hs x y z, List.mem_map]
    constructor
    · rintro ⟨s, h1, rfl⟩
      have h2 := List.mem_filter.1 h1
      unfold hitS at h2
      rw [List.any_eq_true] at h2
      obtain ⟨q, q1, q2⟩ := h2.2
      exact ⟨_, mem_rects.1 q1, q2, rfl⟩
    · rintro ⟨p, p1, p2, rfl⟩
      have hr : p.rct ∈ rectsAt P p.r p.c := mem_rects.2 p1
      have hi := inB_is p2
      have hmm := mayR_is (hm p p1).2
      have hc : 0 < n p.r p.c := by
        rw [hn]
        unfold cnt
        refine List.length_pos_iff.2 (fun q => ?_)
        rw [List.filter_eq_nil_iff] at q
        refine q _ hr (decide_eq_true ?_)
        show (p.t - 1) / 64 ≤ (bn : Int) ∧ (bn : Int) ≤ (p.b - 1) / 64
        omega
      obtain ⟨s, s1, s2⟩ := h.all _ _ hc
      refine ⟨s, List.mem_filter.2 ⟨s1, ?_⟩, ?_⟩
      · unfold hitS
        rw [(rOf_of s2).1, (rOf_of s2).2, List.any_eq_true]
        exact ⟨_, hr, p2⟩
      · unfold clS
        rw [(rOf_of s2).1, (rOf_of s2).2]
        rfl
theorem over_out {P : List Pr} (hs : SrtP P) (hm : ∀ p ∈ P, mayC p.r p.c = true ∧ mayR p.t p.l p.b p.q = true) {x y : Int} (h : mayC x y = false) : overP P x y = [] := by
  rw [List.eq_nil_iff_forall_not_mem]
  intro z hz
  obtain ⟨p, p1, p2, _⟩ := (overP_mem hs x y z).1 hz
  have hi := inB_is p2
  have hmm := mayR_is (hm p p1).2
  rw [mayC_t (by omega)] at h
  cases h
end Go.Proofs.YtcjanaldjokllaaGreat
namespace Go.Proofs.YtcjanaldjokllaaGreat
open Go.RowKit
set_option linter.all false
theorem RowG.view {α : Type} {E : TypeId} {sz : Nat} {cs : α → List Value} {w : World} {base : Nat} {v : Value} {l : List α} (hc : ∀ x, (cs x).length = sz) (h : RowG E sz cs w base v l) : ∃ q cap, v = .slice q l.length cap ∧ l.length ≤ cap ∧ cap ≤ 9223372036854775807 ∧ (0 < l.length → ∃ g, q = some ⟨g, 0, none⟩ ∧ g < w.heap.size ∧ ∀ i x, l[i]? = some x → ∀ j u, (cs x)[j]? = some u → w.cell? ⟨g, i * sz + j, none⟩ = some u) := by
  rcases h.two with ⟨rfl, rfl⟩ | ⟨g, cap, cur, rfl, _, h1, h2, h3, h4, h5, h6⟩
  · exact ⟨none, 0, rfl, Nat.le_refl _, Nat.zero_le _, fun q => absurd q (by simp)⟩
  · exact ⟨_, cap, rfl, h3, by unfold maxLen at h4; omega, fun _ => ⟨g, rfl, h1, fun i x hi j u hu => row_cellsG hc h2 h6 i x j u hi hu⟩⟩
theorem heap_at {W : World} {o : Obj} {n : Nat} (h : n = W.heap.size) : (W.alloc o).heap[n]? = some o := by subst h; exact heap_alloc_new _ _
/-- What is read of the bands: a crowd's seats, their lookers' cells and rectangles. -/
def SeatV (w : World) (D : Nat → Option Tag) (P : List Pr) (s : Seat) : Prop := s.g < w.heap.size ∧ w.cell? ⟨s.g, 0, none⟩ = some (.int .i64 (rOf D s.g)) ∧ w.cell? ⟨s.g, 1, none⟩ = some (.int .i64 (cOf D s.g)) ∧ ∃ vk, w.cell? ⟨s.g, 2, none⟩ = some vk ∧ RowR w vk (rectsAt P (rOf D s.g) (cOf D s.g))
theorem Bd.crowd {w : World} {N : Nat} {D : Nat → Option Tag} {P : List Pr} {m : Nat} (h : Bd w N D P m) {j : Nat} (hj : j < 65) : ∃ K n v l, w.cell? ⟨N, j, none⟩ = some v ∧ RowS w v l ∧ CrowdOK D K l n ∧ (∀ r c, n r c = cnt j P r c) ∧ (∀ s ∈ l, SeatV w D P s) ∧ N < w.heap.size ∧ l.length ≤ 1048576 := by
  obtain ⟨K, NN, h1, h2, h3, h4⟩ := h.mw
  obtain ⟨A, v, l, a1, a2, a3, a4, a5, a6, a7, a8⟩ := h1.crow hj
  refine ⟨K, NN j, v, l, (a1.cell j).trans a2, a3, a5, fun r c => h4 j r c hj, fun s hs => ?_, h1.lt, h1.seats a5⟩
  obtain ⟨r, c, k, e1, e2, e3, e4, e5⟩ := a5.who s hs
  have hlo := h1.lo r c k e1
  have ho := hlo.own
  rw [e2] at ho
  unfold SeatV
  rw [(rOf_of e3).1, (rOf_of e3).2]
  have hne : rectsAt P r c ≠ [] := fun q => by
    rw [h4 j r c hj] at e5
    unfold cnt at e5
    rw [q] at e5
    cases e5
  obtain ⟨k', f1, f2⟩ := h3 r c hne
  rw [e1] at f1
  injection f1 with f1
  subst f1
  exact ⟨ho.lt, ho.cell 0, ho.cell 1, k.v, ho.cell 2, by rw [← f2]; exact hlo.row⟩
end Go.Proofs.YtcjanaldjokllaaGreat
namespace Go.Proofs.YtcjanaldjokllaaGreat
open Go.RowKit
set_option linter.all false
theorem wpList_appx {w : World} {ops : Array Oper} {rest : List Oper} {o : Oper} {a : Act} {Q : Exit → Act → World → Prop} {Φ : Value → World → Prop} (hgd : o.guard = none) (s x : Operand) (T1 T2 : TypeId)
    (ho : o.op = .call { callee := .builtin .append, args := #[s, x], argTypes := #[T1, T2] }) (v xv : Value) (hs : a.eval s = v) (hx : a.eval x = xv)
    (H : ∀ ty, ∃ v' w', (Builtin.append_ #[T1, T2] ty #[v, xv]).run Tryz.prog w = .ok v' w' ∧ Φ v' w') (h : ∀ v' w', Φ v' w' → wpList Tryz.prog ops Q rest (a.put o.dst v') w') : wpList Tryz.prog ops Q (o :: rest) a w := by
  obtain ⟨v', w', hr, hq⟩ := H o.type
  exact wpList_app3 hgd s x T1 T2 ho v xv hs hx v' w' hr (h v' w' hq)
theorem any_take {R : List Rct} {f : Rct → Bool} {k : Nat} {x : Rct} (h : R[k]? = some x) (hf : f x = true) : R.any f = true := List.any_eq_true.2 ⟨x, List.mem_of_getElem? h, hf⟩
theorem any_next {R : List Rct} {f : Rct → Bool} {k : Nat} {x : Rct} (h : R[k]? = some x) (h0 : (R.take k).any f = false) (hf : f x = false) : (R.take (k + 1)).any f = false := by
  rw [List.take_succ, h, List.any_append, h0]
  simp [hf]
/-- All that come behind one that begins below the place begin below it too. -/
theorem any_below {R : List Rct} (hs : SrtR R) {k : Nat} {x : Rct} {r c : Int} (h : R[k]? = some x) (h0 : (R.take k).any (fun q => inB q.t q.l q.b q.r r c) = false) (hx : r < x.t) : R.any (fun q => inB q.t q.l q.b q.r r c) = false := by
  rw [← List.take_append_drop k R, List.any_append, h0, Bool.false_or, List.any_eq_false]
  intro y hy hq
  have hi := inB_is hq
  obtain ⟨h1, h2⟩ := List.getElem?_eq_some_iff.1 h
  rw [List.drop_eq_getElem_cons h1, h2] at hy
  rcases List.mem_cons.1 hy with rfl | hy
  · omega
  · obtain ⟨j, hj⟩ := List.getElem?_of_mem hy
    rw [List.getElem?_drop] at hj
    obtain ⟨h3, h4⟩ := List.getElem?_eq_some_iff.1 hj
    have := (ltR_is _ _).1 (List.pairwise_iff_getElem.1 hs k (k + 1 + j) h1 h3 (by omega))
    rw [h2, h4] at this
    omega
theorem bover_out (w : World) (N : Nat) (x y : Int) (hm : mayC x y = false) : Calls Tryz.prog 108 #[.pointer (some ⟨N, 0, none⟩), .agg #[.int .i64 x, .int .i64 y]] w fun e w' => e = .returned (.slice none 0 0) ∧ Below w.heap.size w w' := by
  have mixed : Tryz.prog.follows .mixedOrders = true := by kernel_rfl
  have HC : Hid (∀ W, Calls Tryz.prog 21 #[.agg #[.int .i64 x, .int .i64 y]] W fun e w' => e = .returned (.bool false) ∧ Below W.heap.size W w') := (show _ from fun W => by rw [← hm]; exact may_any x y W)
  go_enter Tryz.func108, Tryz.ntmps108
  go_wp2
  go_step3
  go_wp2_with (go_at_call 21; refine (HC.out _).mono ?_; rintro e wm ⟨rfl, hbm⟩; have hBm : Below w.heap.size w wm := bup zqb hbm)
  try rw [Exit.noGoto_ret]
  go_ret
  exact ⟨rfl, hBm⟩
set_option maxRecDepth 100000 in
set_option maxHeartbeats 8000000 in
theorem bover_in (w : World) (N : Nat) (D : Nat → Option Tag) (P : List Pr) (m : Nat) (x y : Int) (h : Bd w N D P m) (hm : mayC x y = true) : Calls Tryz.prog 108 #[.pointer (some ⟨N, 0, none⟩), .agg #[.int .i64 x, .int .i64 y]] w fun e w' => ∃ v, e = .returned v ∧ RowC w' w.heap.size v (overP P x y) ∧ Below w.heap.size w w' := by
  have mixed : Tryz.prog.follows .mixedOrders = true := by kernel_rfl
  have hxy := mayC_is hm
  have HC : Hid (∀ W, Calls Tryz.prog 21 #[.agg #[.int .i64 x, .int .i64 y]] W fun e w' => e = .returned (.bool true) ∧ Below W.heap.size W w') := (show _ from fun W => by rw [← hm]; exact may_any x y W)
  obtain ⟨bn, hbn⟩ : ∃ bn : Nat, (x - 1) / 64 = (bn : Int) := ⟨((x - 1) / 64).toNat, by omega⟩
  have hbn64 : bn < 64 := by omega
  have HT : Hid (∀ W, Calls Tryz.prog 64 #[.int .i64 x] W fun e w' => e = .returned (.int .i64 (bn : Nat)) ∧ w' = W) := (show _ from fun W => by rw [← hbn]; exact bof_any W x (by omega) (by omega))
  obtain ⟨K, nn, v0, l, y0, hr, hc, hn, hS0, hNl, hfew⟩ := h.crowd (j := bn + 1) (by omega)
  have HP : Hid ((l.filter (hitS D P x y)).map (clS D) = overP P x y) := over_seats h.srt h.may (by omega) hbn hc hn
  have HSrt : Hid (∀ r c, SrtR (rectsAt P r c)) := (show _ from fun r c => rects_srt h.srt r c)
  obtain ⟨q, cap, rfl, hcap, hcm, hV0⟩ := hr.view Seat.len
  have HS : Hid (∀ s ∈ l, SeatV w D P s) := hS0
  have HV : Hid _ := hV0
  obtain ⟨n, hnn⟩ : ∃ n, n = l.length := ⟨_, rfl⟩
  rw [← hnn] at hcap y0 HV hfew
  have HN : Hid (n = l.length) := hnn
  obtain ⟨i0, hi0, hz0, hzs, hzb⟩ := info_parts infoCell
  have HAP : Hid (∀ W (v : Value) (L : List Cl) vb (z : Cl), RowC W w.heap.size v L → W.heap[vb]? = some (.cells z.cs.toArray 32 (0, 0)) → w.heap.size ≤ W.heap.size → L.length + 1 ≤ 1048577 → ∀ ty, ∃ v' w', (Builtin.append_ #[41, 41] ty #[v, .slice (some ⟨vb, 0, none⟩) 1 1]).run Tryz.prog W = .ok v' w' ∧ RowC w' w.heap.size v' (L ++ [z]) ∧ Below w.heap.size W w' ∧ (v'.ownBlock = v.ownBlock ∨ v'.ownBlock = some W.heap.size) ∧ Mut (fun b => v.ownBlock = some b) W w') := (show _ from fun W v L vb z r1 r2 r3 r4 ty => app_one Tryz.underlying41 hi0 hz0 hzs hzb rfl (by omega) Cl.len Cl.one r1 r2 r3 (by omega) (by omega) ty)
  have y0' : w.cell? ⟨N, 1 + bn, none⟩ = some (.slice q n cap) := by rw [Nat.add_comm]; exact y0
  have hbn64' : (bn : Int) < 64 := by omega
  have hbn0 : (0 : Int) ≤ (bn : Int) := by omega
  clear hnn hS0 hV0 hr hc hn h hi0 hz0 hzs hzb i0 hm hbn y0 hxy
  go_enter Tryz.func108, Tryz.ntmps108
  go_wp2
  go_step3
  go_wp2_with (go_at_call 21; refine (HC.out _).mono ?_; rintro e wm ⟨rfl, hbm⟩; have hBm : Below w.heap.size w wm := bup zqb hbm; have oXm : Own wm w.heap.size #[.int .i64 x, .int .i64 y] := Own.keep (by with_reducible (repeat' first | assumption | refine Own.drew ?_ | refine Own.drewN ?_ _ | (refine Own.at ?_; first | rfl | (simp; done)) | refine Own.past ?_ _)) hbm; have cXm := oXm.cell; have lXm := oXm.lt; have yN := (hBm.cell (p := ⟨N, 1 + bn, none⟩) hNl).trans y0')
  go_step3
  go_wp2
  go_quiet ((go_at_call 64; exact Calls.quiet_of_same (HT.out _)))
  go_wp2
  go_loopw [5, 22] (fun u v w' => ∃ i : Nat, v = .int .i64 i ∧ i ≤ n ∧ Hid (RowC w' w.heap.size u (((l.take i).filter (hitS D P x y)).map (clS D))) ∧ Below w.heap.size w w' ∧ Own w' w.heap.size #[.int .i64 x, .int .i64 y] ∧ Hid (∀ b, u.ownBlock = some b → b ≠ w.heap.size)) (fun _ v _ => n - (intOf v).toNat)
  case atStart => exact ⟨0, rfl, by omega, (show RowC _ _ _ _ from RowG.nil _), by with_reducible (repeat' first | assumption | exact Below.refl _ _ | refine Below.drew ?_ | refine bdrewN ?_ _ | refine Below.setCell ?_ (by first | exact Nat.le_refl _ | (simp; done) | (simp; omega) | omega) _ | refine Below.alloc ?_ (by first | exact Nat.le_refl _ | (simp; done) | (simp; omega) | omega) _), by with_reducible (repeat' first | assumption | refine Own.drew ?_ | refine Own.drewN ?_ _ | (refine Own.at ?_; first | rfl | (simp; done)) | refine Own.past ?_ _), (show Hid _ from fun b q => by cases q)⟩
  case round =>
    obtain ⟨i, rfl, hi, HR, hB, oX, hneX⟩ := hrel
    have cX := oX.cell
    have lX := oX.lt
    by_cases hlt : i < n
    · have hlt' : (i : Int) < n := by omega
      obtain ⟨g, rfl, hgl, hcell⟩ := HV.out (by omega)
      obtain ⟨s, hs⟩ : ∃ s, l[i]? = some s := ⟨_, List.getElem?_eq_getElem (by rw [← HN.out]; omega)⟩
      obtain ⟨s0, s1, s2, vk, s3, s4⟩ := HS.out s (List.mem_of_getElem? hs)
      obtain ⟨qk, capk, rfl, hck, hcmk, hVk⟩ := s4.view Rct.len
      have x0 : wr.cell? ⟨g, i * 2, none⟩ = some (.pointer (some ⟨s.g, 0, none⟩)) := (hB.cell (p := ⟨g, i * 2, none⟩) hgl).trans (hcell i s hs 0 _ rfl)
      have x1 : wr.cell? ⟨g, i * 2 + 1, none⟩ = some (.int .i64 s.n) := (hB.cell (p := ⟨g, i * 2 + 1, none⟩) hgl).trans (hcell i s hs 1 _ rfl)
      have z2 := (hB.cell (p := ⟨s.g, 2, none⟩) s0).trans s3
      have hwz := hB.size
      have hsl : s.g < wr.heap.size := by omega
      obtain ⟨R, hR⟩ : ∃ R, R = rectsAt P (rOf D s.g) (cOf D s.g) := ⟨_, rfl⟩
      have HRs : Hid (SrtR R) := (show SrtR R by rw [hR]; exact HSrt.out _ _)
      rw [← hR] at hck hVk z2 s3
      have HVk : Hid _ := hVk
      obtain ⟨L0, hL0⟩ : ∃ L0, L0 = ((l.take i).filter (hitS D P x y)).map (clS D) := ⟨_, rfl⟩
      rw [← hL0] at HR
      have HL1 : Hid (((l.take (i + 1)).filter (hitS D P x y)).map (clS D) = if R.any (fun q => inB q.t q.l q.b q.r x y) = true then L0 ++ [⟨rOf D s.g, cOf D s.g⟩] else L0) := (show _ = _ by
        have hh : hitS D P x y s = R.any (fun q => inB q.t q.l q.b q.r x y) := by unfold hitS; rw [hR]
        rw [List.take_succ, hs, List.filter_append, List.map_append, ← hL0]
        cases hq : R.any (fun q => inB q.t q.l q.b q.r x y)
        · rw [hq] at hh
          simp [List.filter_cons, hh]
        · rw [hq] at hh
          simp [List.filter_cons, hh, clS])
      have hL0n : L0.length ≤ n := by rw [hL0, List.length_map]; exact Nat.le_trans (List.length_filter_le _ _) (by rw [List.length_take]; omega)
      generalize rOf D s.g = sr at *
      generalize cOf D s.g = sc at *
      obtain ⟨nk, hnk⟩ : ∃ nk, nk = R.length := ⟨_, rfl⟩
      rw [← hnk] at hck z2 HVk
      have HNk : Hid (nk = R.length) := hnk
      obtain ⟨sg, hsg⟩ : ∃ sg, sg = s.g := ⟨_, rfl⟩
      obtain ⟨sn, hsn2⟩ : ∃ sn, sn = s.n := ⟨_, rfl⟩
      rw [← hsg] at x0 z2 hsl s0 s1 s2
      rw [← hsn2] at x1
      clear hnk hR hL0 hs s3 s4 hVk hcell hsg hsn2
      go_wp2
      obtain ⟨wo, ho⟩ : ∃ wo : World, wo = wr := ⟨_, rfl⟩
      subst ho
      clear x0 x1 z2
      obtain ⟨uo, huo⟩ : ∃ uo : Value, uo = u5 := ⟨_, rfl⟩
      rw [← huo] at HR hneX
      go_loopw [5, 32] (fun u v w' => ∃ k : Nat, u = u5 ∧ v = .int .i64 k ∧ k ≤ nk ∧ Hid ((R.take k).any (fun q => inB q.t q.l q.b q.r x y) = false) ∧ Below wo.heap.size wo w' ∧ Own w' wo.heap.size #[.pointer (some ⟨sg, 0, none⟩), .int .i64 sn]) (fun _ v _ => nk - (intOf v).toNat)
      case atStart => exact ⟨0, rfl, rfl, by omega, (show Hid _ from rfl), by with_reducible (repeat' first | assumption | exact Below.refl _ _ | refine Below.drew ?_ | refine bdrewN ?_ _ | refine Below.setCell ?_ (by first | exact Nat.le_refl _ | (simp; done) | (simp; omega) | omega) _ | refine Below.alloc ?_ (by first | exact Nat.le_refl _ | (simp; done) | (simp; omega) | omega) _), by with_reducible (repeat' first | assumption | refine Own.drew ?_ | refine Own.drewN ?_ _ | (refine Own.at ?_; first | rfl | (simp; done)) | refine Own.past ?_ _)⟩
      case round =>
        obtain ⟨k, hu, rfl, hk, HA, hBo, oS⟩ := hrel
        subst hu
        rw [huo] at HR hneX
        have hBk : Below w.heap.size w wr := hB.trans (hBo.mono hwz)
        have oXk := oX.keep hBo
        have cXk := oXk.cell
        have lXk := oXk.lt
        have cS := oS.cell
        have lS := oS.lt
        have hkz := hBk.size
        by_cases hlk : k < nk
        · have hlk' : (k : Int) < nk := by omega
          obtain ⟨g3, rfl, hg3, hc3⟩ := HVk.out (by omega)
          obtain ⟨a, ha⟩ : ∃ a, R[k]? = some a := ⟨_, List.getElem?_eq_getElem (by rw [← HNk.out]; omega)⟩
          have y0 : wr.cell? ⟨g3, k * 4, none⟩ = some (.int .i64 a.t) := (hBk.cell (p := ⟨g3, k * 4, none⟩) hg3).trans (hc3 k a ha 0 _ rfl)
          have y1 : wr.cell? ⟨g3, k * 4 + 1, none⟩ = some (.int .i64 a.l) := (hBk.cell (p := ⟨g3, k * 4 + 1, none⟩) hg3).trans (hc3 k a ha 1 _ rfl)
          have y2 : wr.cell? ⟨g3, k * 4 + 2, none⟩ = some (.int .i64 a.b) := (hBk.cell (p := ⟨g3, k * 4 + 2, none⟩) hg3).trans (hc3 k a ha 2 _ rfl)
          have y3 : wr.cell? ⟨g3, k * 4 + 3, none⟩ = some (.int .i64 a.r) := (hBk.cell (p := ⟨g3, k * 4 + 3, none⟩) hg3).trans (hc3 k a ha 3 _ rfl)
          have f0 := (hBk.cell (p := ⟨sg, 0, none⟩) s0).trans s1
          have f1 := (hBk.cell (p := ⟨sg, 1, none⟩) s0).trans s2
          have hgl3 : g3 < wr.heap.size := by omega
          have hsl2 : sg < wr.heap.size := by omega
          have Ha : Hid (R[k]? = some a) := ha
          clear ha hc3
          by_cases hgt : x < a.t
          · have hgt' : a.t > x := hgt
            have HF : Hid (RowC wr w.heap.size u5 (((l.take (i + 1)).filter (hitS D P x y)).map (clS D))) := (show RowC _ _ _ _ from by rw [HL1.out, any_below HRs.out Ha.out HA.out hgt, if_neg (by decide)]; exact HR.out.keep hBo)
            go_wp2
            exact ⟨⟨i + 1, by go_num, by omega, (show RowC _ _ _ _ from HF.out.keep zqb), by with_reducible (repeat' first | assumption | exact Below.refl _ _ | refine Below.drew ?_ | refine bdrewN ?_ _ | refine Below.setCell ?_ (by first | exact Nat.le_refl _ | (simp; done) | (simp; omega) | omega) _ | refine Below.alloc ?_ (by first | exact Nat.le_refl _ | (simp; done) | (simp; omega) | omega) _), by with_reducible (repeat' first | assumption | refine Own.drew ?_ | refine Own.drewN ?_ _ | (refine Own.at ?_; first | rfl | (simp; done)) | refine Own.past ?_ _), hneX⟩, by simp [intOf]; omega⟩
          · have hgt' : ¬ a.t > x := hgt
            have HI : Hid (∀ W, Calls Tryz.prog 129 #[.agg #[.int .i64 a.t, .int .i64 a.l, .int .i64 a.b, .int .i64 a.r], .agg #[.int .i64 x, .int .i64 y]] W fun e w' => e = .returned (.bool (inB a.t a.l a.b a.r x y)) ∧ Below W.heap.size W w') := (show _ from fun W => in_any a.t a.l a.b a.r x y W)
            cases hib : inB a.t a.l a.b a.r x y
            · rw [hib] at HI
              have HA2 : Hid ((R.take (k + 1)).any (fun q => inB q.t q.l q.b q.r x y) = false) := (show _ = _ from any_next Ha.out HA.out hib)
              clear hib
              go_wp2_with (go_at_call 129; refine (HI.out _).mono ?_; rintro e w2 ⟨rfl, hb2⟩; have hB2 : Below wr.heap.size wr w2 := bup zqb hb2; have oS2 := oS.keep hB2; have hBo2 := bup hBo hB2)
              exact ⟨⟨k + 1, rfl, by go_num, by omega, HA2, hBo2, oS2⟩, by simp [intOf]; omega⟩
            · rw [hib] at HI
              have HF : Hid (((l.take (i + 1)).filter (hitS D P x y)).map (clS D) = L0 ++ [⟨sr, sc⟩]) := (show _ = _ from by rw [HL1.out, any_take Ha.out hib, if_pos rfl])
              clear hib
              go_wp2_with (first
                | (go_at_call 129; refine (HI.out _).mono ?_; rintro e w2 ⟨rfl, hb2⟩; have hB2 : Below wr.heap.size wr w2 := bup zqb hb2; have oS2 := oS.keep hB2; have cS2 := oS2.cell; have lS2 := oS2.lt; have oX2 := oXk.keep hB2; have cX2 := oX2.cell; have lX2 := oX2.lt; have g0 := (hB2.cell (p := ⟨sg, 0, none⟩) hsl2).trans f0; have g1 := (hB2.cell (p := ⟨sg, 1, none⟩) hsl2).trans f1; have hz2 := hB2.size; have hsl3 : sg < w2.heap.size := Nat.lt_of_lt_of_le hsl2 hz2; have hBw2 : Below w.heap.size w w2 := hBk.trans (hB2.mono hkz))
                | (at_builtin; refine wpList_appx rfl _ _ _ _ rfl _ (.slice (some ⟨w2.heap.size, 0, none⟩) 1 1) rfl rfl (HAP.out _ u5 L0 w2.heap.size ⟨sr, sc⟩ ((HR.out.keep hBo).keep (bup hB2 zqb)) (heap_at rfl) (by simp; omega) (by omega)) (fun v' w3 hq => ?_); obtain ⟨r1, r2, r3, r4⟩ := hq; have R1 : Hid _ := r1; have R2 : Below w.heap.size w w3 := (show Below w.heap.size w _ from by with_reducible (repeat' first | assumption | exact Below.refl _ _ | refine Below.drew ?_ | refine bdrewN ?_ _ | refine Below.setCell ?_ (by first | exact Nat.le_refl _ | (simp; done) | (simp; omega) | omega) _ | refine Below.alloc ?_ (by first | exact Nat.le_refl _ | (simp; done) | (simp; omega) | omega) _)).trans r2; have R3 : Hid (∀ b, v'.ownBlock = some b → b ≠ w.heap.size) := (show ∀ b, v'.ownBlock = some b → b ≠ w.heap.size from fun b q => by rcases r3 with s | s; exact hneX.out b (s.symm.trans q); rw [s] at q; injection q with q; simp at q; omega); have oX3 : Own w3 w.heap.size #[.int .i64 x, .int .i64 y] := Own.mut (by with_reducible (repeat' first | assumption | refine Own.drew ?_ | refine Own.drewN ?_ _ | (refine Own.at ?_; first | rfl | (simp; done)) | refine Own.past ?_ _)) r4 (fun q => hneX.out _ q rfl); clear r1 r2 r3 r4))
              exact ⟨⟨i + 1, by go_num, by omega, (show RowC _ _ _ _ from by rw [HF.out]; exact R1.out), R2, oX3, R3⟩, by simp [intOf]; omega⟩
        · have hkn : k = nk := by omega
          subst hkn
          have HF : Hid (RowC wr w.heap.size u5 (((l.take (i + 1)).filter (hitS D P x y)).map (clS D))) := (show RowC _ _ _ _ from by
            have q := HA.out
            rw [HNk.out, List.take_length] at q
            rw [HL1.out, q, if_neg (by decide)]; exact HR.out.keep hBo)
          go_wp2
          exact ⟨⟨i + 1, by go_num, by omega, HF, hBk, oXk, hneX⟩, by simp [intOf]; omega⟩
    · have hin : i = n := by omega
      subst hin
      have HF : Hid (RowC wr w.heap.size u5 (overP P x y)) := (show RowC _ _ _ _ from by have q := HR.out; rw [HN.out, List.take_length, HP.out] at q; exact q)
      go_wp2
      try rw [Exit.noGoto_ret]
      go_ret
      exact ⟨_, rfl, HF.out, hB⟩
theorem bover_any (w : World) (N : Nat) (D : Nat → Option Tag) (P : List Pr) (m : Nat) (x y : Int) (h : Bd w N D P m) : Calls Tryz.prog 108 #[.pointer (some ⟨N, 0, none⟩), .agg #[.int .i64 x, .int .i64 y]] w fun e w' => ∃ v, e = .returned v ∧ RowC w' w.heap.size v (overP P x y) ∧ Below w.heap.size w w' := by
  cases hm : mayC x y
  · refine (bover_out w N x y hm).mono ?_
    rintro e w' ⟨rfl, hb⟩
    refine ⟨_, rfl, ?_, hb⟩
    rw [over_out h.srt h.may hm]
    exact RowG.nil _
  · exact bover_in w N D P m x y h hm
end Go.Proofs.YtcjanaldjokllaaGreat
