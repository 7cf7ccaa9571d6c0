/- The contracts of slices.Grow of nothing, of slices.Concat of one row, and of without. The condition: no more than 3518437208883 of them. · slices.SortFunc at cells, references and edges; slices.Clone at references; the contracts of deps.sortEdges and eachOnce. · The contracts of deps.mayRef and deps.refTo. New memory alone is made. -/
import Derived.Test.YtcjanaldjokllaaGreatQEPcBIfBDf
import Derived.Test.YtcjanaldjokllaaGreatQESBIcBDc
import Derived.Test.YtcjanaldjokllaaGreatQEPfBGc
import Derived.Test.YtcjanaldjokllaaGreatQECEQ
namespace Go.Proofs.YtcjanaldjokllaaGreat
open Go.RowKit
set_option linter.all false
set_option maxRecDepth 100000 in
set_option maxHeartbeats 2000000 in
theorem grow_zerof (w : World) : Calls Tryz.prog 70 #[.slice none 0 0, .int .i64 0] w fun e w' => e = .returned (.slice none 0 0) ∧ w' = w := by
  go_enter Tryz.func70, Tryz.ntmps70
  go_wp2
  go_ret
  exact ⟨rfl, rfl⟩
set_option maxRecDepth 100000 in
set_option maxHeartbeats 2000000 in
theorem grow_moref (w : World) (k : Nat) (hk : 0 < k) (hl : k ≤ 3518437208883) : Calls Tryz.prog 70 #[.slice none 0 0, .int .i64 k] w fun e w' => (∃ g cp, e = .returned (.slice (some ⟨g, 0, none⟩) 0 cp) ∧ RowF w' (.slice (some ⟨g, 0, none⟩) 0 cp) [] ∧ w.heap.size ≤ g) ∧ Below w.heap.size w w' := by
  have mixed : Tryz.prog.follows .mixedOrders = true := by kernel_rfl
  obtain ⟨i0, hi0, hz0, hzs, hzb⟩ := info_parts infoRf
  have hold : (Builtin.firstCells i0.size 0 (.slice none 0 0)).run Tryz.prog w.drew = .ok ([] : List Value).toArray w.drew := run_firstCells_none w.drew _ 0 0 0
  obtain ⟨G, hG⟩ : ∃ G, G = grownCap w k 0 53 := ⟨_, rfl⟩
  obtain ⟨ROW, hROW⟩ : ∃ ROW : Array Value, ROW = ([] : List Value).toArray ++ Builtin.zeroCells (Value.agg #[.bool false, .int .i64 0, .int .i64 0, .int .i64 0, .int .i64 0]).cells k ++ Builtin.zeroCells (Value.agg #[.bool false, .int .i64 0, .int .i64 0, .int .i64 0, .int .i64 0]).cells (G - k) := ⟨_, rfl⟩
  obtain ⟨WA, hWA⟩ : ∃ WA, WA = w.drew.alloc (.cells ROW 53) := ⟨_, rfl⟩
  obtain ⟨NB, hNB⟩ : ∃ NB, NB = w.heap.size := ⟨_, rfl⟩
  have hrz : ∀ ty, (Builtin.append_ #[33, 3] ty #[.slice none 0 0, .int .i64 k]).run Tryz.prog w = .ok (.slice (some ⟨NB, 0, none⟩) k G) WA := fun ty => by
    have h := Lib.run_append_grow_zeros w 33 3 ty 53 i0 _ .i64 .i64 Tryz.underlying33 Tryz.underlying3 hi0 hz0 none 0 0 [] hold k (by omega) (by omega) (by omega) (by omega) (by rw [hzb]; omega) (by rw [hzb]; exact growslice_fits (by omega) (by omega))
    simp only [Nat.zero_add] at h
    rw [← hG, ← hROW, ← hWA, ← hNB] at h
    exact h
  have hGn : k ≤ G := by rw [hG]; exact grownCap_ge w _ _ _
  have hGm : G ≤ maxLen := by rw [hG]; exact grownCap_le_maxLen w k 0 _ (by unfold maxLen; omega)
  have hRs : ROW.size = G * 5 := by
    rw [hROW]
    simp only [Array.size_append, List.size_toArray, zero_size]
    simp only [Value.cells]
    simp
    omega
  have HP : Hid (RowF WA (.slice (some ⟨NB, 0, none⟩) 0 G) [] ∧ w.heap.size ≤ NB ∧ Below w.heap.size w WA) := by
    refine ⟨RowG.mk Rf.len rfl (Nat.zero_le _) (by rw [hWA, hNB]; exact heap_alloc_new w.drew _) (Nat.zero_le _) hGm hRs (by simp [flatG]), by omega, ?_⟩
    rw [hWA]
    exact (Below.refl _ _).drew.alloc (Nat.le_refl _) _
  unfold maxLen at hGm
  clear hWA hNB hG hROW hRs hold hi0 hz0 hzs hzb i0
  go_enter Tryz.func70, Tryz.ntmps70
  go_wp2_with (at_builtin; refine wpList_app3 rfl _ _ _ _ rfl _ _ rfl rfl _ _ (hrz _) ?_)
  all_goals go_ret
  all_goals exact ⟨⟨_, _, rfl, HP.out.1, HP.out.2.1⟩, HP.out.2.2⟩
/-- A piece of a row. -/
def VWf (w : World) (v : Value) (l : List Rf) : Prop := ∃ a cp, v = .slice (some a) l.length cp ∧ (∀ j u, (flatG Rf.cs l)[j]? = some u → w.cell? (a.add j) = some u)
theorem VWf.keep {w w' : World} {v : Value} {l : List Rf} (h : VWf w v l) (hb : Below w.heap.size w w') : VWf w' v l := by
  obtain ⟨a, cp, rfl, h1⟩ := h
  refine ⟨a, cp, rfl, fun j u hj => ?_⟩
  have h2 := h1 j u hj
  rw [hb.cell (World.block_lt_of_cell? w _ h2)]
  exact h2
theorem app_rowf (W : World) (v x : Value) (m k : List Rf) (h : RowF W v m) (hx : VWf W x k) (hl : m.length + k.length ≤ 3518437208883) (ty : TypeId) :
    ∃ v' w', (Builtin.append_ #[33, 33] ty #[v, x]).run Tryz.prog W = .ok v' w' ∧ RowF w' v' (m ++ k) ∧ (v'.ownBlock = v.ownBlock ∨ v'.ownBlock = some W.heap.size) ∧ Mut (fun g => v.ownBlock = some g) W w' := by
  obtain ⟨i, hi, hz, hsz, hby⟩ := info_parts infoRf
  obtain ⟨a, cp, rfl, hc⟩ := hx
  obtain ⟨v', w', h1, h2, h3, h4, h5⟩ := run_append_own_at (P := Tryz.prog) W 0 33 ty 53 i _ 5 40 Tryz.underlying33 hi hz hsz hby rfl (by omega) v m.length (flatG Rf.cs m) h a k.length cp (flatG Rf.cs k) (flatG_len Rf.len k) hc (flatG_one Rf.one k) (by unfold maxLen; omega) (by omega) (Nat.zero_le _)
  refine ⟨v', w', h1, ?_, h5, ⟨h3.os, h3.tape, h3.output, h3.size, fun b hb hs => h3.block b hb (fun e => hs e.symm)⟩⟩
  unfold RowF RowG
  rw [flatG_app, List.length_append]
  exact h2
/-- What Grow gives, of either size. -/
theorem grow_anyf (w : World) (k : Nat) (hl : k ≤ 3518437208883) : Calls Tryz.prog 70 #[.slice none 0 0, .int .i64 k] w fun e w' => ∃ v, e = .returned v ∧ RowF w' v [] ∧ (∀ g, v.ownBlock = some g → w.heap.size ≤ g) ∧ Below w.heap.size w w' := by
  by_cases h : k = 0
  · subst h
    refine (grow_zerof w).mono ?_
    rintro e w' ⟨rfl, rfl⟩
    exact ⟨_, rfl, RowG.nil _, (fun g hg => by cases hg), Below.refl _ _⟩
  · refine (grow_moref w k (by omega) hl).mono ?_
    rintro e w' ⟨⟨g, cp, rfl, h1, h2⟩, h3⟩
    exact ⟨_, rfl, h1, (fun g' hg => by injection hg with hg; subst hg; exact h2), h3⟩
set_option maxRecDepth 100000 in
set_option maxHeartbeats 4000000 in
theorem concat_onef (w : World) (sb : Nat) (x1 : Value) (l1 : List Rf) (hs : Hid (Own w sb #[x1])) (h1 : Hid (VWf w x1 l1)) (hl : l1.length ≤ 3518437208883) :
    Calls Tryz.prog 44 #[.slice (some ⟨sb, 0, none⟩) 1 1] w fun e w' => ∃ v, e = .returned v ∧ RowF w' v l1 ∧ (∀ g, v.ownBlock = some g → w.heap.size ≤ g) ∧ Below w.heap.size w w' := by
  have mixed : Tryz.prog.follows .mixedOrders = true := by kernel_rfl
  obtain ⟨a1, c1, e1, _⟩ := h1.out
  subst e1
  obtain ⟨n1, hn1⟩ : ∃ n, n = l1.length := ⟨_, rfl⟩
  rw [← hn1] at hs h1 hl
  have cs0 : w.cell? ⟨sb, 0, none⟩ = some (.slice (some a1) n1 c1) := hs.out.cell 0
  have ls := hs.out.lt
  have HL1 : Hid (n1 = l1.length) := hn1
  have HG : Hid (∀ W k, k ≤ 3518437208883 → Calls Tryz.prog 70 #[.slice none 0 0, .int .i64 (k : Nat)] W fun e w' => ∃ v, e = .returned v ∧ RowF w' v [] ∧ (∀ g, v.ownBlock = some g → W.heap.size ≤ g) ∧ Below W.heap.size W w') := fun W k h => grow_anyf W k h
  clear hn1 hs
  go_enter Tryz.func44, Tryz.ntmps44
  go_wp2
  go_loop [3, 11] (fun s i => (i = .int .i64 0 ∧ s = .int .i64 0) ∨ (i = .int .i64 1 ∧ s = .int .i64 (n1 : Int))) (fun _ i => 2 - (intOf i).toNat)
  case atStart => exact .inl ⟨rfl, rfl⟩
  case round =>
    rcases hrel with ⟨rfl, rfl⟩ | ⟨rfl, rfl⟩
    · go_wp2
      all_goals exact ⟨.inr ⟨rfl, rfl⟩, by simp [intOf]⟩
    · go_wp2_with (go_at_call 70; refine (HG.out _ n1 hl).mono ?_; rintro e wa ⟨va, rfl, hra, hga, hba⟩; have HRA : Hid _ := hra; clear hra)
      have HAP : Hid (∀ (W : World) (u x : Value) (m k : List Rf), RowF W u m → (∀ g, u.ownBlock = some g → w.heap.size ≤ g) → VWf W x k → m.length + k.length ≤ 3518437208883 → w.heap.size ≤ W.heap.size → ∀ ty, ∃ v' w', (Builtin.append_ #[33, 33] ty #[u, x]).run Tryz.prog W = .ok v' w' ∧ RowF w' v' (m ++ k) ∧ (∀ g, v'.ownBlock = some g → w.heap.size ≤ g) ∧ Below w.heap.size W w') := (show _ from fun W u x m k r1 r2 r3 r4 r5 ty => by
        obtain ⟨v', w', q1, q2, q3, q4⟩ := app_rowf W u x m k r1 r3 r4 ty
        refine ⟨v', w', q1, q2, fun g hg => ?_, q4.to_below r5 r2⟩
        rcases q3 with q3 | q3
        · exact r2 g (q3.symm.trans hg)
        · rw [q3] at hg; injection hg with hg; omega)
      clear HG
      go_loopw [6, 27] (fun u v w' => ∃ m, ((v = .int .i64 0 ∧ m = []) ∨ (v = .int .i64 1 ∧ m = l1)) ∧ Hid (RowF w' u m ∧ (∀ g, u.ownBlock = some g → w.heap.size ≤ g)) ∧ Below w.heap.size w w') (fun _ v _ => 2 - (intOf v).toNat)
      case atStart => exact ⟨[], .inl ⟨rfl, rfl⟩, (show Hid _ from ⟨HRA.out, hga⟩), hba⟩
      case round =>
        obtain ⟨m, hm, hR, hB⟩ := hrel
        have zB := hB.size
        have y0 := (hB.cell (p := ⟨sb, 0, none⟩) ls).trans cs0
        rcases hm with ⟨rfl, rfl⟩ | ⟨rfl, rfl⟩
        · go_wp2_with (at_builtin; obtain ⟨v', wb, hr, q1, q2, q3⟩ := HAP.out _ _ _ _ _ hR.out.1 hR.out.2 (h1.out.keep hB) (by have := HL1.out; simp; omega) zB _; refine wpList_app3 rfl _ _ _ _ rfl _ _ rfl rfl _ wb hr ?_; have Q1 : Hid _ := And.intro q1 q2; clear q1 q2 hr)
          all_goals exact ⟨⟨l1, .inr ⟨rfl, rfl⟩, Q1, hB.trans q3⟩, by simp [intOf]⟩
        · go_wp2
          all_goals go_ret
          all_goals exact ⟨_, rfl, hR.out.1, hR.out.2, hB⟩
theorem RowG.vwf {w : World} {g n cap : Nat} {l : List Rf} (h : RowF w (.slice (some ⟨g, 0, none⟩) n cap) l) : VWf w (.slice (some ⟨g, 0, none⟩) n cap) l := by
  rcases h.two with ⟨h, _⟩ | ⟨g', cap', cur, e, _, _, h2, _, _, _, h6⟩
  · cases h
  · simp only [Value.slice.injEq, Option.some.injEq, Addr.mk.injEq] at e
    obtain ⟨⟨rfl, _⟩, rfl, rfl⟩ := e
    refine ⟨_, _, rfl, fun j u hj => ?_⟩
    rw [add_none, Nat.zero_add, cell_row h2]
    rw [← h6, List.getElem?_take] at hj
    split at hj
    · simpa using hj
    · cases hj
end Go.Proofs.YtcjanaldjokllaaGreat
namespace Go.Proofs.YtcjanaldjokllaaGreat
open Go.RowKit Go.Sort Go.Shelf
set_option linter.all false
def cmpK (x y : Cl) : Int := cmpC x.r x.c y.r y.c
theorem cmpK_lt (x y : Cl) : ltOf cmpK x y = true ↔ (x.r < y.r ∨ (x.r = y.r ∧ x.c < y.c)) := by unfold ltOf cmpK; rw [decide_eq_true_eq, cmpC_neg]
theorem cmpK_zero (x y : Cl) : cmpK x y = 0 ↔ x = y := by
  unfold cmpK
  rw [cmpC_zero]
  obtain ⟨a, b⟩ := x
  obtain ⟨c, d⟩ := y
  simp
theorem cmpF_lex (x y : Rf) : cmpF x y < 0 ↔ (x.t < y.t ∨ (x.t = y.t ∧ (x.l < y.l ∨ (x.l = y.l ∧ (x.b < y.b ∨ (x.b = y.b ∧ (x.q < y.q ∨ (x.q = y.q ∧ mI x.m < mI y.m)))))))) := by
  rw [cmpF_neg, cmpR_neg, ← mI_lt]
  omega
theorem cmpF_lt (x y : Rf) : ltOf cmpF x y = true ↔ (x.t < y.t ∨ (x.t = y.t ∧ (x.l < y.l ∨ (x.l = y.l ∧ (x.b < y.b ∨ (x.b = y.b ∧ (x.q < y.q ∨ (x.q = y.q ∧ mI x.m < mI y.m)))))))) := by unfold ltOf; rw [decide_eq_true_eq, cmpF_lex]
/-- How edges stand to each other: by who refers, then by what it refers to. -/
def cmpD (x y : Ed) : Int := if cmpC x.r x.c y.r y.c = 0 then cmpF x.f y.f else cmpC x.r x.c y.r y.c
theorem cmpD_neg (x y : Ed) : cmpD x y < 0 ↔ ((x.r < y.r ∨ (x.r = y.r ∧ x.c < y.c)) ∨ ((x.r = y.r ∧ x.c = y.c) ∧ cmpF x.f y.f < 0)) := by
  unfold cmpD
  have h1 := cmpC_neg x.r x.c y.r y.c
  have h2 := cmpC_zero x.r x.c y.r y.c
  split <;> omega
theorem cmpD_zero (x y : Ed) : cmpD x y = 0 ↔ x = y := by
  have h1 := cmpC_zero x.r x.c y.r y.c
  have h2 := cmpF_zero x.f y.f
  obtain ⟨a, b, f⟩ := x
  obtain ⟨c, d, g⟩ := y
  unfold cmpD
  simp only [Ed.mk.injEq] at *
  split
  · rw [h2]; constructor
    · intro h; exact ⟨(h1.1 ‹_›).1, (h1.1 ‹_›).2, h⟩
    · rintro ⟨_, _, h⟩; exact h
  · constructor
    · intro h; contradiction
    · rintro ⟨q1, q2, _⟩; exact absurd (h1.2 ⟨q1, q2⟩) ‹_›
theorem cmpD_lt (x y : Ed) : ltOf cmpD x y = true ↔ (x.r < y.r ∨ (x.r = y.r ∧ (x.c < y.c ∨ (x.c = y.c ∧ (x.f.t < y.f.t ∨ (x.f.t = y.f.t ∧ (x.f.l < y.f.l ∨ (x.f.l = y.f.l ∧ (x.f.b < y.f.b ∨ (x.f.b = y.f.b ∧ (x.f.q < y.f.q ∨ (x.f.q = y.f.q ∧ mI x.f.m < mI y.f.m)))))))))))) := by
  unfold ltOf
  rw [decide_eq_true_eq, cmpD_neg, cmpF_lex]
  omega
theorem cmpK_swo : SWO (ltOf cmpK) where
  irrefl x := by
    cases h : ltOf cmpK x x
    · rfl
    · rw [cmpK_lt] at h; omega
  trans x y z h1 h2 := by rw [cmpK_lt] at *; omega
  ntrans x y z h1 h2 := by
    cases h : ltOf cmpK x z
    · rfl
    · have g1 : ¬ (ltOf cmpK x y = true) := by rw [h1]; decide
      have g2 : ¬ (ltOf cmpK y z = true) := by rw [h2]; decide
      rw [cmpK_lt] at h g1 g2
      omega
theorem cmpK_tot (x y : Cl) (h1 : ltOf cmpK x y = false) (h2 : ltOf cmpK y x = false) : x = y := by
  have g1 : ¬ (ltOf cmpK x y = true) := by rw [h1]; decide
  have g2 : ¬ (ltOf cmpK y x = true) := by rw [h2]; decide
  rw [cmpK_lt] at g1 g2
  obtain ⟨a, b⟩ := x
  obtain ⟨c, d⟩ := y
  simp only at g1 g2
  have e1 : a = c := by omega
  have e2 : b = d := by omega
  rw [e1, e2]
theorem cmpF_swo : SWO (ltOf cmpF) where
  irrefl x := by
    cases h : ltOf cmpF x x
    · rfl
    · rw [cmpF_lt] at h; omega
  trans x y z h1 h2 := by rw [cmpF_lt] at *; omega
  ntrans x y z h1 h2 := by
    cases h : ltOf cmpF x z
    · rfl
    · have g1 : ¬ (ltOf cmpF x y = true) := by rw [h1]; decide
      have g2 : ¬ (ltOf cmpF y z = true) := by rw [h2]; decide
      rw [cmpF_lt] at h g1 g2
      omega
theorem cmpF_tot (x y : Rf) (h1 : ltOf cmpF x y = false) (h2 : ltOf cmpF y x = false) : x = y := by
  have g1 : ¬ (ltOf cmpF x y = true) := by rw [h1]; decide
  have g2 : ¬ (ltOf cmpF y x = true) := by rw [h2]; decide
  rw [cmpF_lt] at g1 g2
  have e : x.t = y.t ∧ x.l = y.l ∧ x.b = y.b ∧ x.q = y.q ∧ mI x.m = mI y.m := by omega
  obtain ⟨e1, e2, e3, e4, e5⟩ := e
  have e6 := (mI_eq _ _).1 e5
  obtain ⟨m, t, l, b, q⟩ := x
  obtain ⟨m', t', l', b', q'⟩ := y
  simp_all
theorem cmpD_tot (x y : Ed) (h1 : ltOf cmpD x y = false) (h2 : ltOf cmpD y x = false) : x = y := by
  have g1 : ¬ (ltOf cmpD x y = true) := by rw [h1]; decide
  have g2 : ¬ (ltOf cmpD y x = true) := by rw [h2]; decide
  rw [cmpD_lt] at g1 g2
  have e : x.r = y.r ∧ x.c = y.c ∧ x.f.t = y.f.t ∧ x.f.l = y.f.l ∧ x.f.b = y.f.b ∧ x.f.q = y.f.q ∧ mI x.f.m = mI y.f.m := by omega
  obtain ⟨e7, e8, e1, e2, e3, e4, e5⟩ := e
  have e6 := (mI_eq _ _).1 e5
  obtain ⟨r, c, m, t, l, b, q⟩ := x
  obtain ⟨r', c', m', t', l', b', q'⟩ := y
  simp_all
theorem sortc_any (w : World) (base : Nat) (v : Value) (l : List Cl) (hv : RowG 32 2 Cl.cs w base v l) (hl : l.length < 4611686018427387904) : Calls Tryz.prog 79 #[v, .func (.func 34) #[] #[]] w fun e w' => e = .returned (.tuple #[]) ∧ RowG 32 2 Cl.cs w' base v (srtL cmpK l) ∧ Mut (fun b => v.ownBlock = some b) w w' :=
  sort_row ⟨⟨0, 0⟩⟩ Tryz.sortC Cl.len Cl.one Tryz.isAgg32 Tryz.sizeOf32 cmpK cmpK_swo cmpK_tot 34 (enters_of Tryz.func34 (by kernel_rfl) rfl) (fun x y W => ocel_gr _ _ _ _ W) hv hl
theorem sortf_any (w : World) (base : Nat) (v : Value) (l : List Rf) (hv : RowG 53 5 Rf.cs w base v l) (hl : l.length < 4611686018427387904) : Calls Tryz.prog 42 #[v, .func (.func 43) #[] #[]] w fun e w' => e = .returned (.tuple #[]) ∧ RowG 53 5 Rf.cs w' base v (srtL cmpF l) ∧ Mut (fun b => v.ownBlock = some b) w w' :=
  sort_row ⟨⟨false, 0, 0, 0, 0⟩⟩ Tryz.sortF Rf.len Rf.one Tryz.isAgg53 Tryz.sizeOf53 cmpF cmpF_swo cmpF_tot 43 (enters_of Tryz.func43 (by kernel_rfl) rfl) (fun x y W => oref_any _ _ W) hv hl
end Go.Proofs.YtcjanaldjokllaaGreat
namespace Go.Proofs.YtcjanaldjokllaaGreat
open Go.RowKit
set_option linter.all false
set_option maxRecDepth 100000 in
theorem mayf_no (t l b q : Int) (w : World) (m : Bool) (hm : mayR t l b q = false) : Calls Tryz.prog 22 #[.agg #[.bool m, .int .i64 t, .int .i64 l, .int .i64 b, .int .i64 q]] w fun e w' => e = .returned (.bool false) ∧ Below w.heap.size w w' := by
  have HM : Hid (∀ W, Calls Tryz.prog 36 #[.agg #[.int .i64 t, .int .i64 l, .int .i64 b, .int .i64 q]] W fun e w' => e = .returned (.bool false) ∧ Below W.heap.size W w') := (show _ from fun W => by rw [← hm]; exact mayR_any t l b q W)
  clear hm
  go_enter Tryz.func22, Tryz.ntmps22
  go_wp2_with (go_at_call 36; refine (HM.out _).mono ?_; rintro e wa ⟨rfl, hba⟩; have hBa : Below w.heap.size w wa := bup zqb hba; have oXa : Own wa w.heap.size #[.bool m, .int .i64 t, .int .i64 l, .int .i64 b, .int .i64 q] := Own.keep (by with_reducible (repeat' first | assumption | refine Own.drew ?_ | refine Own.drewN ?_ _ | (refine Own.at ?_; first | rfl | (simp; done)) | refine Own.past ?_ _)) hba; have oRa : Own wa (w.heap.size + 1) #[.int .i64 t, .int .i64 l, .int .i64 b, .int .i64 q] := Own.keep (by with_reducible (repeat' first | assumption | refine Own.drew ?_ | refine Own.drewN ?_ _ | (refine Own.at ?_; first | rfl | (simp; done)) | refine Own.past ?_ _)) hba; have cXa := oXa.cell; have cRa := oRa.cell; have lXa := oXa.lt; have lRa := oRa.lt; clear hba)
  go_ret
  exact ⟨rfl, by with_reducible (repeat' first | assumption | exact Below.refl _ _ | refine Below.drew ?_ | refine bdrewN ?_ _ | refine Below.setCell ?_ (by first | exact Nat.le_refl _ | (simp; done) | (simp; omega) | omega) _ | refine Below.alloc ?_ (by first | exact Nat.le_refl _ | (simp; done) | (simp; omega) | omega) _)⟩
set_option maxRecDepth 100000 in
theorem mayf_many (t l b q : Int) (w : World) (hm : mayR t l b q = true) : Calls Tryz.prog 22 #[.agg #[.bool true, .int .i64 t, .int .i64 l, .int .i64 b, .int .i64 q]] w fun e w' => e = .returned (.bool true) ∧ Below w.heap.size w w' := by
  have HM : Hid (∀ W, Calls Tryz.prog 36 #[.agg #[.int .i64 t, .int .i64 l, .int .i64 b, .int .i64 q]] W fun e w' => e = .returned (.bool true) ∧ Below W.heap.size W w') := (show _ from fun W => by rw [← hm]; exact mayR_any t l b q W)
  clear hm
  go_enter Tryz.func22, Tryz.ntmps22
  go_wp2_with (go_at_call 36; refine (HM.out _).mono ?_; rintro e wa ⟨rfl, hba⟩; have hBa : Below w.heap.size w wa := bup zqb hba; have oXa : Own wa w.heap.size #[.bool true, .int .i64 t, .int .i64 l, .int .i64 b, .int .i64 q] := Own.keep (by with_reducible (repeat' first | assumption | refine Own.drew ?_ | refine Own.drewN ?_ _ | (refine Own.at ?_; first | rfl | (simp; done)) | refine Own.past ?_ _)) hba; have oRa : Own wa (w.heap.size + 1) #[.int .i64 t, .int .i64 l, .int .i64 b, .int .i64 q] := Own.keep (by with_reducible (repeat' first | assumption | refine Own.drew ?_ | refine Own.drewN ?_ _ | (refine Own.at ?_; first | rfl | (simp; done)) | refine Own.past ?_ _)) hba; have cXa := oXa.cell; have cRa := oRa.cell; have lXa := oXa.lt; have lRa := oRa.lt; clear hba)
  go_ret
  exact ⟨rfl, by with_reducible (repeat' first | assumption | exact Below.refl _ _ | refine Below.drew ?_ | refine bdrewN ?_ _ | refine Below.setCell ?_ (by first | exact Nat.le_refl _ | (simp; done) | (simp; omega) | omega) _ | refine Below.alloc ?_ (by first | exact Nat.le_refl _ | (simp; done) | (simp; omega) | omega) _)⟩
set_option maxRecDepth 100000 in
theorem mayf_row (t l b q : Int) (w : World) (hm : mayR t l b q = true) (h1 : ¬ t = b) : Calls Tryz.prog 22 #[.agg #[.bool false, .int .i64 t, .int .i64 l, .int .i64 b, .int .i64 q]] w fun e w' => e = .returned (.bool false) ∧ Below w.heap.size w w' := by
  have HM : Hid (∀ W, Calls Tryz.prog 36 #[.agg #[.int .i64 t, .int .i64 l, .int .i64 b, .int .i64 q]] W fun e w' => e = .returned (.bool true) ∧ Below W.heap.size W w') := (show _ from fun W => by rw [← hm]; exact mayR_any t l b q W)
  have h1' : (t == b) = false := by simpa using h1
  clear hm
  go_enter Tryz.func22, Tryz.ntmps22
  go_wp2_with (go_at_call 36; refine (HM.out _).mono ?_; rintro e wa ⟨rfl, hba⟩; have hBa : Below w.heap.size w wa := bup zqb hba; have oXa : Own wa w.heap.size #[.bool false, .int .i64 t, .int .i64 l, .int .i64 b, .int .i64 q] := Own.keep (by with_reducible (repeat' first | assumption | refine Own.drew ?_ | refine Own.drewN ?_ _ | (refine Own.at ?_; first | rfl | (simp; done)) | refine Own.past ?_ _)) hba; have oRa : Own wa (w.heap.size + 1) #[.int .i64 t, .int .i64 l, .int .i64 b, .int .i64 q] := Own.keep (by with_reducible (repeat' first | assumption | refine Own.drew ?_ | refine Own.drewN ?_ _ | (refine Own.at ?_; first | rfl | (simp; done)) | refine Own.past ?_ _)) hba; have cXa := oXa.cell; have cRa := oRa.cell; have lXa := oXa.lt; have lRa := oRa.lt; clear hba)
  go_ret
  exact ⟨rfl, by with_reducible (repeat' first | assumption | exact Below.refl _ _ | refine Below.drew ?_ | refine bdrewN ?_ _ | refine Below.setCell ?_ (by first | exact Nat.le_refl _ | (simp; done) | (simp; omega) | omega) _ | refine Below.alloc ?_ (by first | exact Nat.le_refl _ | (simp; done) | (simp; omega) | omega) _)⟩
set_option maxRecDepth 100000 in
theorem mayf_col (t l b q : Int) (w : World) (hm : mayR t l b q = true) (h1 : t = b) (h2 : ¬ l = q) : Calls Tryz.prog 22 #[.agg #[.bool false, .int .i64 t, .int .i64 l, .int .i64 b, .int .i64 q]] w fun e w' => e = .returned (.bool false) ∧ Below w.heap.size w w' := by
  have HM : Hid (∀ W, Calls Tryz.prog 36 #[.agg #[.int .i64 t, .int .i64 l, .int .i64 b, .int .i64 q]] W fun e w' => e = .returned (.bool true) ∧ Below W.heap.size W w') := (show _ from fun W => by rw [← hm]; exact mayR_any t l b q W)
  have h1' : (t == b) = true := by simpa using h1
  have h2' : (l == q) = false := by simpa using h2
  clear h1
  clear hm
  go_enter Tryz.func22, Tryz.ntmps22
  go_wp2_with (go_at_call 36; refine (HM.out _).mono ?_; rintro e wa ⟨rfl, hba⟩; have hBa : Below w.heap.size w wa := bup zqb hba; have oXa : Own wa w.heap.size #[.bool false, .int .i64 t, .int .i64 l, .int .i64 b, .int .i64 q] := Own.keep (by with_reducible (repeat' first | assumption | refine Own.drew ?_ | refine Own.drewN ?_ _ | (refine Own.at ?_; first | rfl | (simp; done)) | refine Own.past ?_ _)) hba; have oRa : Own wa (w.heap.size + 1) #[.int .i64 t, .int .i64 l, .int .i64 b, .int .i64 q] := Own.keep (by with_reducible (repeat' first | assumption | refine Own.drew ?_ | refine Own.drewN ?_ _ | (refine Own.at ?_; first | rfl | (simp; done)) | refine Own.past ?_ _)) hba; have cXa := oXa.cell; have cRa := oRa.cell; have lXa := oXa.lt; have lRa := oRa.lt; clear hba)
  go_ret
  exact ⟨rfl, by with_reducible (repeat' first | assumption | exact Below.refl _ _ | refine Below.drew ?_ | refine bdrewN ?_ _ | refine Below.setCell ?_ (by first | exact Nat.le_refl _ | (simp; done) | (simp; omega) | omega) _ | refine Below.alloc ?_ (by first | exact Nat.le_refl _ | (simp; done) | (simp; omega) | omega) _)⟩
set_option maxRecDepth 100000 in
theorem mayf_one (t l b q : Int) (w : World) (hm : mayR t l b q = true) (h1 : t = b) (h2 : l = q) : Calls Tryz.prog 22 #[.agg #[.bool false, .int .i64 t, .int .i64 l, .int .i64 b, .int .i64 q]] w fun e w' => e = .returned (.bool true) ∧ Below w.heap.size w w' := by
  have HM : Hid (∀ W, Calls Tryz.prog 36 #[.agg #[.int .i64 t, .int .i64 l, .int .i64 b, .int .i64 q]] W fun e w' => e = .returned (.bool true) ∧ Below W.heap.size W w') := (show _ from fun W => by rw [← hm]; exact mayR_any t l b q W)
  have h1' : (t == b) = true := by simpa using h1
  have h2' : (l == q) = true := by simpa using h2
  clear h1 h2
  clear hm
  go_enter Tryz.func22, Tryz.ntmps22
  go_wp2_with (go_at_call 36; refine (HM.out _).mono ?_; rintro e wa ⟨rfl, hba⟩; have hBa : Below w.heap.size w wa := bup zqb hba; have oXa : Own wa w.heap.size #[.bool false, .int .i64 t, .int .i64 l, .int .i64 b, .int .i64 q] := Own.keep (by with_reducible (repeat' first | assumption | refine Own.drew ?_ | refine Own.drewN ?_ _ | (refine Own.at ?_; first | rfl | (simp; done)) | refine Own.past ?_ _)) hba; have oRa : Own wa (w.heap.size + 1) #[.int .i64 t, .int .i64 l, .int .i64 b, .int .i64 q] := Own.keep (by with_reducible (repeat' first | assumption | refine Own.drew ?_ | refine Own.drewN ?_ _ | (refine Own.at ?_; first | rfl | (simp; done)) | refine Own.past ?_ _)) hba; have cXa := oXa.cell; have cRa := oRa.cell; have lXa := oXa.lt; have lRa := oRa.lt; clear hba)
  go_ret
  exact ⟨rfl, by with_reducible (repeat' first | assumption | exact Below.refl _ _ | refine Below.drew ?_ | refine bdrewN ?_ _ | refine Below.setCell ?_ (by first | exact Nat.le_refl _ | (simp; done) | (simp; omega) | omega) _ | refine Below.alloc ?_ (by first | exact Nat.le_refl _ | (simp; done) | (simp; omega) | omega) _)⟩
theorem mayf_any (x : Rf) (w : World) : Calls Tryz.prog 22 #[.agg #[.bool x.m, .int .i64 x.t, .int .i64 x.l, .int .i64 x.b, .int .i64 x.q]] w fun e w' => e = .returned (.bool (mayF x)) ∧ Below w.heap.size w w' := by
  obtain ⟨m, t, l, b, q⟩ := x
  cases hm : mayR t l b q
  · have e : mayF ⟨m, t, l, b, q⟩ = false := by simp [mayF, hm]
    rw [e]; exact mayf_no t l b q w m hm
  · cases m
    · by_cases h1 : t = b
      · by_cases h2 : l = q
        · subst h1; subst h2
          have e : mayF ⟨false, t, l, t, l⟩ = true := by simp [mayF, hm]
          rw [e]; exact mayf_one t l t l w hm rfl rfl
        · have e : mayF ⟨false, t, l, b, q⟩ = false := by simp [mayF, h2]
          rw [e]; exact mayf_col t l b q w hm h1 h2
      · have e : mayF ⟨false, t, l, b, q⟩ = false := by simp [mayF, h1]
        rw [e]; exact mayf_row t l b q w hm h1
    · have e : mayF ⟨true, t, l, b, q⟩ = true := by simp [mayF, hm]
      rw [e]; exact mayf_many t l b q w hm
end Go.Proofs.YtcjanaldjokllaaGreat
