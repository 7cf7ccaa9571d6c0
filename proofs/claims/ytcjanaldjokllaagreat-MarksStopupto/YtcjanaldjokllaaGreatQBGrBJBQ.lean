/- The contracts of slices.Grow of nothing, of slices.Concat of one row, and of without. The condition: no more than 4000000000000 of them. · The contracts of looker.add and looker.remove. · The bands in memory (MW): their block with 65 crowds, the crowds' rows, the lookers with their rectangles' rows; what keeps through calls. No function's text is walked here. -/
import Derived.Test.YtcjanaldjokllaaGreatQBIrBDr
import Derived.Test.YtcjanaldjokllaaGreatQBKBBr
namespace Go.Proofs.YtcjanaldjokllaaGreat
open Go.RowKit
set_option linter.all false
set_option maxRecDepth 100000 in
set_option maxHeartbeats 2000000 in
theorem grow_zeror (w : World) : Calls Tryz.prog 139 #[.slice none 0 0, .int .i64 0] w fun e w' => e = .returned (.slice none 0 0) ∧ w' = w := by
  go_enter Tryz.func139, Tryz.ntmps139
  go_wp2
  go_ret
  exact ⟨rfl, rfl⟩
set_option maxRecDepth 100000 in
set_option maxHeartbeats 2000000 in
theorem grow_morer (w : World) (k : Nat) (hk : 0 < k) (hl : k ≤ 4000000000000) : Calls Tryz.prog 139 #[.slice none 0 0, .int .i64 k] w fun e w' => (∃ g cp, e = .returned (.slice (some ⟨g, 0, none⟩) 0 cp) ∧ RowR w' (.slice (some ⟨g, 0, none⟩) 0 cp) [] ∧ w.heap.size ≤ g) ∧ Below w.heap.size w w' := by
  have mixed : Tryz.prog.follows .mixedOrders = true := by kernel_rfl
  obtain ⟨i0, hi0, hz0, hzs, hzb⟩ := info_parts infoRct
  have hold : (Builtin.firstCells i0.size 0 (.slice none 0 0)).run Tryz.prog w.drew = .ok ([] : List Value).toArray w.drew := run_firstCells_none w.drew _ 0 0 0
  obtain ⟨G, hG⟩ : ∃ G, G = grownCap w k 0 51 := ⟨_, rfl⟩
  obtain ⟨ROW, hROW⟩ : ∃ ROW : Array Value, ROW = ([] : List Value).toArray ++ Builtin.zeroCells (Value.agg #[.int .i64 0, .int .i64 0, .int .i64 0, .int .i64 0]).cells k ++ Builtin.zeroCells (Value.agg #[.int .i64 0, .int .i64 0, .int .i64 0, .int .i64 0]).cells (G - k) := ⟨_, rfl⟩
  obtain ⟨WA, hWA⟩ : ∃ WA, WA = w.drew.alloc (.cells ROW 51) := ⟨_, rfl⟩
  obtain ⟨NB, hNB⟩ : ∃ NB, NB = w.heap.size := ⟨_, rfl⟩
  have hrz : ∀ ty, (Builtin.append_ #[123, 3] ty #[.slice none 0 0, .int .i64 k]).run Tryz.prog w = .ok (.slice (some ⟨NB, 0, none⟩) k G) WA := fun ty => by
    have h := Lib.run_append_grow_zeros w 123 3 ty 51 i0 _ .i64 .i64 Tryz.underlying123 Tryz.underlying3 hi0 hz0 none 0 0 [] hold k (by omega) (by omega) (by omega) (by omega) (by rw [hzb]; omega) (by rw [hzb]; exact growslice_fits (by omega) (by omega))
    simp only [Nat.zero_add] at h
    rw [← hG, ← hROW, ← hWA, ← hNB] at h
    exact h
  have hGn : k ≤ G := by rw [hG]; exact grownCap_ge w _ _ _
  have hGm : G ≤ maxLen := by rw [hG]; exact grownCap_le_maxLen w k 0 _ (by unfold maxLen; omega)
  have hRs : ROW.size = G * 4 := by
    rw [hROW]
    simp only [Array.size_append, List.size_toArray, zero_size]
    simp only [Value.cells]
    simp
    omega
  have HP : Hid (RowR WA (.slice (some ⟨NB, 0, none⟩) 0 G) [] ∧ w.heap.size ≤ NB ∧ Below w.heap.size w WA) := by
    refine ⟨RowG.mk Rct.len rfl (Nat.zero_le _) (by rw [hWA, hNB]; exact heap_alloc_new w.drew _) (Nat.zero_le _) hGm hRs (by simp [flatG]), by omega, ?_⟩
    rw [hWA]
    exact (Below.refl _ _).drew.alloc (Nat.le_refl _) _
  unfold maxLen at hGm
  clear hWA hNB hG hROW hRs hold hi0 hz0 hzs hzb i0
  go_enter Tryz.func139, Tryz.ntmps139
  go_wp2_with (at_builtin; refine wpList_app3 rfl _ _ _ _ rfl _ _ rfl rfl _ _ (hrz _) ?_)
  all_goals go_ret
  all_goals exact ⟨⟨_, _, rfl, HP.out.1, HP.out.2.1⟩, HP.out.2.2⟩
/-- A piece of a row. -/
def VWr (w : World) (v : Value) (l : List Rct) : Prop := ∃ a cp, v = .slice (some a) l.length cp ∧ (∀ j u, (flatG Rct.cs l)[j]? = some u → w.cell? (a.add j) = some u)
theorem VWr.keep {w w' : World} {v : Value} {l : List Rct} (h : VWr w v l) (hb : Below w.heap.size w w') : VWr w' v l := by
  obtain ⟨a, cp, rfl, h1⟩ := h
  refine ⟨a, cp, rfl, fun j u hj => ?_⟩
  have h2 := h1 j u hj
  rw [hb.cell (World.block_lt_of_cell? w _ h2)]
  exact h2
theorem app_rowr (W : World) (v x : Value) (m k : List Rct) (h : RowR W v m) (hx : VWr W x k) (hl : m.length + k.length ≤ 4000000000000) (ty : TypeId) :
    ∃ v' w', (Builtin.append_ #[123, 123] ty #[v, x]).run Tryz.prog W = .ok v' w' ∧ RowR w' v' (m ++ k) ∧ (v'.ownBlock = v.ownBlock ∨ v'.ownBlock = some W.heap.size) ∧ Mut (fun g => v.ownBlock = some g) W w' := by
  obtain ⟨i, hi, hz, hsz, hby⟩ := info_parts infoRct
  obtain ⟨a, cp, rfl, hc⟩ := hx
  obtain ⟨v', w', h1, h2, h3, h4, h5⟩ := run_append_own_at (P := Tryz.prog) W 0 123 ty 51 i _ 4 32 Tryz.underlying123 hi hz hsz hby rfl (by omega) v m.length (flatG Rct.cs m) h a k.length cp (flatG Rct.cs k) (flatG_len Rct.len k) hc (flatG_one Rct.one k) (by unfold maxLen; omega) (by omega) (Nat.zero_le _)
  refine ⟨v', w', h1, ?_, h5, ⟨h3.os, h3.tape, h3.output, h3.size, fun b hb hs => h3.block b hb (fun e => hs e.symm)⟩⟩
  unfold RowR RowG
  rw [flatG_app, List.length_append]
  exact h2
/-- What Grow gives, of either size. -/
theorem grow_anyr (w : World) (k : Nat) (hl : k ≤ 4000000000000) : Calls Tryz.prog 139 #[.slice none 0 0, .int .i64 k] w fun e w' => ∃ v, e = .returned v ∧ RowR w' v [] ∧ (∀ g, v.ownBlock = some g → w.heap.size ≤ g) ∧ Below w.heap.size w w' := by
  by_cases h : k = 0
  · subst h
    refine (grow_zeror w).mono ?_
    rintro e w' ⟨rfl, rfl⟩
    exact ⟨_, rfl, RowG.nil _, (fun g hg => by cases hg), Below.refl _ _⟩
  · refine (grow_morer w k (by omega) hl).mono ?_
    rintro e w' ⟨⟨g, cp, rfl, h1, h2⟩, h3⟩
    exact ⟨_, rfl, h1, (fun g' hg => by injection hg with hg; subst hg; exact h2), h3⟩
set_option maxRecDepth 100000 in
set_option maxHeartbeats 4000000 in
theorem concat_oner (w : World) (sb : Nat) (x1 : Value) (l1 : List Rct) (hs : Hid (Own w sb #[x1])) (h1 : Hid (VWr w x1 l1)) (hl : l1.length ≤ 4000000000000) :
    Calls Tryz.prog 118 #[.slice (some ⟨sb, 0, none⟩) 1 1] w fun e w' => ∃ v, e = .returned v ∧ RowR w' v l1 ∧ (∀ g, v.ownBlock = some g → w.heap.size ≤ g) ∧ Below w.heap.size w w' := by
  have mixed : Tryz.prog.follows .mixedOrders = true := by kernel_rfl
  obtain ⟨a1, c1, e1, _⟩ := h1.out
  subst e1
  obtain ⟨n1, hn1⟩ : ∃ n, n = l1.length := ⟨_, rfl⟩
  rw [← hn1] at hs h1 hl
  have cs0 : w.cell? ⟨sb, 0, none⟩ = some (.slice (some a1) n1 c1) := hs.out.cell 0
  have ls := hs.out.lt
  have HL1 : Hid (n1 = l1.length) := hn1
  have HG : Hid (∀ W k, k ≤ 4000000000000 → Calls Tryz.prog 139 #[.slice none 0 0, .int .i64 (k : Nat)] W fun e w' => ∃ v, e = .returned v ∧ RowR w' v [] ∧ (∀ g, v.ownBlock = some g → W.heap.size ≤ g) ∧ Below W.heap.size W w') := fun W k h => grow_anyr W k h
  clear hn1 hs
  go_enter Tryz.func118, Tryz.ntmps118
  go_wp2
  go_loop [3, 11] (fun s i => (i = .int .i64 0 ∧ s = .int .i64 0) ∨ (i = .int .i64 1 ∧ s = .int .i64 (n1 : Int))) (fun _ i => 2 - (intOf i).toNat)
  case atStart => exact .inl ⟨rfl, rfl⟩
  case round =>
    rcases hrel with ⟨rfl, rfl⟩ | ⟨rfl, rfl⟩
    · go_wp2
      all_goals exact ⟨.inr ⟨rfl, rfl⟩, by simp [intOf]⟩
    · go_wp2_with (go_at_call 139; refine (HG.out _ n1 hl).mono ?_; rintro e wa ⟨va, rfl, hra, hga, hba⟩; have HRA : Hid _ := hra; clear hra)
      have HAP : Hid (∀ (W : World) (u x : Value) (m k : List Rct), RowR W u m → (∀ g, u.ownBlock = some g → w.heap.size ≤ g) → VWr W x k → m.length + k.length ≤ 4000000000000 → w.heap.size ≤ W.heap.size → ∀ ty, ∃ v' w', (Builtin.append_ #[123, 123] ty #[u, x]).run Tryz.prog W = .ok v' w' ∧ RowR w' v' (m ++ k) ∧ (∀ g, v'.ownBlock = some g → w.heap.size ≤ g) ∧ Below w.heap.size W w') := (show _ from fun W u x m k r1 r2 r3 r4 r5 ty => by
        obtain ⟨v', w', q1, q2, q3, q4⟩ := app_rowr W u x m k r1 r3 r4 ty
        refine ⟨v', w', q1, q2, fun g hg => ?_, q4.to_below r5 r2⟩
        rcases q3 with q3 | q3
        · exact r2 g (q3.symm.trans hg)
        · rw [q3] at hg; injection hg with hg; omega)
      clear HG
      go_loopw [6, 27] (fun u v w' => ∃ m, ((v = .int .i64 0 ∧ m = []) ∨ (v = .int .i64 1 ∧ m = l1)) ∧ Hid (RowR w' u m ∧ (∀ g, u.ownBlock = some g → w.heap.size ≤ g)) ∧ Below w.heap.size w w') (fun _ v _ => 2 - (intOf v).toNat)
      case atStart => exact ⟨[], .inl ⟨rfl, rfl⟩, (show Hid _ from ⟨HRA.out, hga⟩), hba⟩
      case round =>
        obtain ⟨m, hm, hR, hB⟩ := hrel
        have zB := hB.size
        have y0 := (hB.cell (p := ⟨sb, 0, none⟩) ls).trans cs0
        rcases hm with ⟨rfl, rfl⟩ | ⟨rfl, rfl⟩
        · go_wp2_with (at_builtin; obtain ⟨v', wb, hr, q1, q2, q3⟩ := HAP.out _ _ _ _ _ hR.out.1 hR.out.2 (h1.out.keep hB) (by have := HL1.out; simp; omega) zB _; refine wpList_app3 rfl _ _ _ _ rfl _ _ rfl rfl _ wb hr ?_; have Q1 : Hid _ := And.intro q1 q2; clear q1 q2 hr)
          all_goals exact ⟨⟨l1, .inr ⟨rfl, rfl⟩, Q1, hB.trans q3⟩, by simp [intOf]⟩
        · go_wp2
          all_goals go_ret
          all_goals exact ⟨_, rfl, hR.out.1, hR.out.2, hB⟩
theorem RowG.vwr {w : World} {g n cap : Nat} {l : List Rct} (h : RowR w (.slice (some ⟨g, 0, none⟩) n cap) l) : VWr w (.slice (some ⟨g, 0, none⟩) n cap) l := by
  rcases h.two with ⟨h, _⟩ | ⟨g', cap', cur, e, _, _, h2, _, _, _, h6⟩
  · cases h
  · simp only [Value.slice.injEq, Option.some.injEq, Addr.mk.injEq] at e
    obtain ⟨⟨rfl, _⟩, rfl, rfl⟩ := e
    refine ⟨_, _, rfl, fun j u hj => ?_⟩
    rw [add_none, Nat.zero_add, cell_row h2]
    rw [← h6, List.getElem?_take] at hj
    split at hj
    · simpa using hj
    · cases hj
set_option maxRecDepth 100000 in
set_option maxHeartbeats 4000000 in
theorem wo_anyr (w : World) (v : Value) (l : List Rct) (i : Nat) (hv : RowR w v l) (hi : i < l.length) (hl : l.length ≤ 4000000000000) :
    Calls Tryz.prog 94 #[v, .int .i64 i] w (WoP 51 4 Rct.cs w v (l.take i ++ l.drop (i + 1))) := by
  have mixed : Tryz.prog.follows .mixedOrders = true := by kernel_rfl
  have HD : Hid (Calls Tryz.prog 117 #[v, .int .i64 i, .int .i64 ((i : Int) + 1)] w (InsP 51 4 Rct.cs w v (l.take i ++ l.drop (i + 1)))) := del_anyr w v l i hv hi hl
  have hll : (l.take i ++ l.drop (i + 1)).length ≤ 4000000000000 := by simp; omega
  have HC : Hid (∀ W sb x, Own W sb #[x] → VWr W x (l.take i ++ l.drop (i + 1)) → Calls Tryz.prog 118 #[.slice (some ⟨sb, 0, none⟩) 1 1] W fun e w' => ∃ v, e = .returned v ∧ RowR w' v (l.take i ++ l.drop (i + 1)) ∧ (∀ g, v.ownBlock = some g → W.heap.size ≤ g) ∧ Below W.heap.size W w') := fun W sb x h1 h2 => concat_oner W sb x _ h1 h2 hll
  clear hll
  have hw : IntKind.i64.wrap ((i : Int) + 1) = (i : Int) + 1 := by rw [IntKind.wrap_i64]; omega
  have hvb : ∃ a n c, v = .slice (some a) n c := by
    rcases hv.two with ⟨rfl, rfl⟩ | ⟨g, cap, cur, rfl, _⟩
    · simp at hi
    · exact ⟨_, _, _, rfl⟩
  clear hi hl hv
  generalize l.take i ++ l.drop (i + 1) = m at *
  obtain ⟨q, n, c, rfl⟩ := hvb
  go_enter Tryz.func94, Tryz.ntmps94
  go_wp2_with (first
    | (go_at_call 117; refine HD.out.mono ?_; rintro e wa ⟨va, rfl, k1, k2, k3⟩; have K1 : Hid (RowR wa va m) := k1; have K2 : Hid (va.ownBlock = (Value.slice (some q) n c).ownBlock ∨ ∃ g, va.ownBlock = some g ∧ w.heap.size ≤ g) := k2; have K3 : Hid (Mut (fun k => (Value.slice (some q) n c).ownBlock = some k) w wa) := k3; clear k3; rcases k1.two with ⟨rfl, hm⟩ | ⟨g, cp, cur, rfl, x1, x2, x3, x4, x5, x6⟩; (· exfalso; rcases k2 with k2 | ⟨_, k2, _⟩; cases k2; cases k2); clear k2 x3 x6)
    | (go_at_call 118; refine (HC.out _ _ _ (by with_reducible (repeat' first | assumption | refine Own.drew ?_ | refine Own.drewN ?_ _ | (refine Own.at ?_; first | rfl | (simp; done)) | refine Own.past ?_ _)) (VWr.keep (RowG.vwr K1.out) zqb)).mono ?_; rintro e wb ⟨vb, rfl, r1, r2, r3⟩; have R1 : Hid (RowR wb vb m) := r1; have R2 : Hid (∀ g, vb.ownBlock = some g → wa.heap.size ≤ g) := (show _ from fun g hg => Nat.le_trans (by simp) (r2 g hg)); have R3 : Below wa.heap.size wa wb := bup zqb r3; clear r1 r2 r3))
  · go_ret
    exact InsP.wo ⟨_, rfl, K1.out, K2.out, K3.out⟩
  · go_ret
    exact ⟨_, rfl, R1.out, fun g hg => .inr (Nat.le_trans K3.out.size (R2.out g hg)), K3.out.below R3⟩
end Go.Proofs.YtcjanaldjokllaaGreat
namespace Go.Proofs.YtcjanaldjokllaaGreat
open Go.RowKit
set_option linter.all false
def fR (k0 k1 k2 k3 : Int) (x : Rct) : Int := cmpR x.t x.l x.b x.r k0 k1 k2 k3
theorem RowG.slice {α : Type} {E : TypeId} {sz : Nat} {cs : α → List Value} {w : World} {base : Nat} {v : Value} {l : List α} (h : RowG E sz cs w base v l) : ∃ q n cp, v = .slice q n cp := by
  rcases h.two with ⟨rfl, _⟩ | ⟨g, cap, cur, rfl, _⟩ <;> exact ⟨_, _, _, rfl⟩
/-- What an add, a remove leaves: the looker with another row of rectangles. -/
def LookP (w : World) (g : Nat) (r c : Int) (v : Value) (l' : List Rct) (e : Ending) (w' : World) : Prop := e = .returned (.bool true) ∧ ∃ v', Own w' g #[.int .i64 r, .int .i64 c, v'] ∧ RowR w' v' l' ∧ (∀ b, v'.ownBlock = some b → v.ownBlock = some b ∨ w.heap.size ≤ b) ∧ Mut (fun b => b = g ∨ v.ownBlock = some b) w w'
set_option maxRecDepth 100000 in
set_option maxHeartbeats 4000000 in
theorem ladd_no (w : World) (g : Nat) (r c : Int) (v : Value) (l : List Rct) (k0 k1 k2 k3 : Int) (ho : Hid (Own w g #[.int .i64 r, .int .i64 c, v])) (hv : Hid (RowR w v l)) (hl : l.length ≤ 4000000000000) (hS : Hid (MonoF (fR k0 k1 k2 k3) l)) (hh : hasF (fR k0 k1 k2 k3) l = true) :
    Calls Tryz.prog 71 #[.pointer (some ⟨g, 0, none⟩), .agg #[.int .i64 k0, .int .i64 k1, .int .i64 k2, .int .i64 k3]] w fun e w' => e = .returned (.bool false) ∧ Below w.heap.size w w' := by
  have mixed : Tryz.prog.follows .mixedOrders = true := by kernel_rfl
  have g2 : w.cell? ⟨g, 2, none⟩ = some v := ho.out.cell 2
  have gl := ho.out.lt
  have H : Hid (∀ W, Below w.heap.size w W → Calls Tryz.prog 93 #[v, .agg #[.int .i64 k0, .int .i64 k1, .int .i64 k2, .int .i64 k3], .func (.func 68) #[] #[]] W fun e w' => e = .returned (.tuple #[.int .i64 (idxF (fR k0 k1 k2 k3) l), .bool true]) ∧ Below W.heap.size W w') := (show _ from fun W hb => by
    have := bs_anyr W v l k0 k1 k2 k3 (fR k0 k1 k2 k3) (hv.out.keep hb) hl hS.out (fun W' _ x _ => orec_any x.t x.l x.b x.r k0 k1 k2 k3 W')
    rw [hh] at this
    exact this)
  generalize idxF (fR k0 k1 k2 k3) l = i at *
  clear hh hS hv ho
  go_enter Tryz.func71, Tryz.ntmps71
  go_wp2
  go_region_held3 (fun w' => w'.cell? ⟨g, 2, none⟩ = some v ∧ w'.cell? ⟨w.heap.size, 0, none⟩ = some (.int .i64 k0) ∧ w'.cell? ⟨w.heap.size, 1, none⟩ = some (.int .i64 k1) ∧ w'.cell? ⟨w.heap.size, 2, none⟩ = some (.int .i64 k2) ∧ w'.cell? ⟨w.heap.size, 3, none⟩ = some (.int .i64 k3)) ((repeat' apply And.intro) <;> (first | (go_keep; done) | (go_simp; done))) ((go_at_call 93; refine (H.out _ zqb).mono ?_; rintro e wa ⟨rfl, hbwa⟩; have hBwa : Below w.heap.size w wa := bup zqb hbwa; have oa : Own wa w.heap.size #[.int .i64 k0, .int .i64 k1, .int .i64 k2, .int .i64 k3] := Own.keep (by with_reducible (repeat' first | assumption | refine Own.drew ?_ | refine Own.drewN ?_ _ | (refine Own.at ?_; first | rfl | (simp; done)) | refine Own.past ?_ _)) hbwa; have ca := oa.cell; have ya := (hBwa.cell (p := ⟨g, 2, none⟩) gl).trans g2))
  go_wp2
  go_ret
  exact ⟨rfl, hBwa⟩
set_option maxRecDepth 100000 in
set_option maxHeartbeats 4000000 in
theorem ladd_yes (w : World) (g : Nat) (r c : Int) (v : Value) (l : List Rct) (k0 k1 k2 k3 : Int) (ho : Hid (Own w g #[.int .i64 r, .int .i64 c, v])) (hv : Hid (RowR w v l)) (hng : v.ownBlock ≠ some g) (hl : l.length ≤ 4000000000000) (hS : Hid (MonoF (fR k0 k1 k2 k3) l)) (hh : hasF (fR k0 k1 k2 k3) l = false) :
    Calls Tryz.prog 71 #[.pointer (some ⟨g, 0, none⟩), .agg #[.int .i64 k0, .int .i64 k1, .int .i64 k2, .int .i64 k3]] w (LookP w g r c v (loF (fR k0 k1 k2 k3) l ++ ⟨k0, k1, k2, k3⟩ :: hiF (fR k0 k1 k2 k3) l)) := by
  have mixed : Tryz.prog.follows .mixedOrders = true := by kernel_rfl
  have g2 : w.cell? ⟨g, 2, none⟩ = some v := ho.out.cell 2
  have gl := ho.out.lt
  have H : Hid (∀ W, Below w.heap.size w W → Calls Tryz.prog 93 #[v, .agg #[.int .i64 k0, .int .i64 k1, .int .i64 k2, .int .i64 k3], .func (.func 68) #[] #[]] W fun e w' => e = .returned (.tuple #[.int .i64 (idxF (fR k0 k1 k2 k3) l), .bool false]) ∧ Below W.heap.size W w') := (show _ from fun W hb => by
    have := bs_anyr W v l k0 k1 k2 k3 (fR k0 k1 k2 k3) (hv.out.keep hb) hl hS.out (fun W' _ x _ => orec_any x.t x.l x.b x.r k0 k1 k2 k3 W')
    rw [hh] at this
    exact this)
  have HI : Hid (∀ W vb, Below w.heap.size w W → w.heap.size ≤ vb → W.heap[vb]? = some (.cells #[.int .i64 k0, .int .i64 k1, .int .i64 k2, .int .i64 k3] 51 (0, 0)) → Calls Tryz.prog 105 #[v, .int .i64 (idxF (fR k0 k1 k2 k3) l), .slice (some ⟨vb, 0, none⟩) 1 1] W fun e w' => ∃ v', e = .returned v' ∧ Own w' g #[.int .i64 r, .int .i64 c, v] ∧ (∃ q n cp, v' = .slice q n cp) ∧ LookP w g r c v (loF (fR k0 k1 k2 k3) l ++ ⟨k0, k1, k2, k3⟩ :: hiF (fR k0 k1 k2 k3) l) (.returned (.bool true)) (w'.setCell ⟨g, 2, none⟩ v')) := (show _ from fun W vb hb hvb hx => by
    have hvW := hv.out.keep hb
    have hgW := ho.out.keep hb
    refine (ins_anyr W v l (idxF (fR k0 k1 k2 k3) l) vb ⟨k0, k1, k2, k3⟩ hvW (idxF_le l) hl hx (fun q => by have := (hv.out.lt _ q).2; omega)).mono ?_
    rintro e w' ⟨v', rfl, p1, p2, p3⟩
    rw [take_idx hS.out, drop_idx hS.out, has_no hh] at p1
    have hgo : Own w' g #[.int .i64 r, .int .i64 c, v] := hgW.mut p3 hng
    have hob : ∀ b, v'.ownBlock = some b → v.ownBlock = some b ∨ w.heap.size ≤ b := fun b q => by
      rcases p2 with p2 | ⟨b', p2, p4⟩
      · exact .inl (p2.symm.trans q)
      · rw [p2] at q; injection q with q; subst q; exact .inr (Nat.le_trans hb.size p4)
    refine ⟨v', rfl, hgo, p1.slice, rfl, v', own_put (k := 2) hgo (by simp), p1.aside _ (fun b q => ?_), hob, ?_⟩
    · rcases hob b q with s | s
      · intro e; simp at e; subst e; exact hng s
      · simp; omega
    · exact Mut.set (Mut.call (Mut.of_below hb) p3 (fun b q => .inl (.inr q))) (.inl (.inl rfl)) _)
  revert HI
  generalize LookP w g r c v (loF (fR k0 k1 k2 k3) l ++ ⟨k0, k1, k2, k3⟩ :: hiF (fR k0 k1 k2 k3) l) = PP
  intro HI
  generalize idxF (fR k0 k1 k2 k3) l = i at *
  clear hh hS hv ho hng
  go_enter Tryz.func71, Tryz.ntmps71
  go_wp2
  go_region_held3 (fun w' => w'.cell? ⟨g, 2, none⟩ = some v ∧ w'.cell? ⟨w.heap.size, 0, none⟩ = some (.int .i64 k0) ∧ w'.cell? ⟨w.heap.size, 1, none⟩ = some (.int .i64 k1) ∧ w'.cell? ⟨w.heap.size, 2, none⟩ = some (.int .i64 k2) ∧ w'.cell? ⟨w.heap.size, 3, none⟩ = some (.int .i64 k3)) ((repeat' apply And.intro) <;> (first | (go_keep; done) | (go_simp; done))) ((go_at_call 93; refine (H.out _ zqb).mono ?_; rintro e wa ⟨rfl, hbwa⟩; have hBwa : Below w.heap.size w wa := bup zqb hbwa; have oa : Own wa w.heap.size #[.int .i64 k0, .int .i64 k1, .int .i64 k2, .int .i64 k3] := Own.keep (by with_reducible (repeat' first | assumption | refine Own.drew ?_ | refine Own.drewN ?_ _ | (refine Own.at ?_; first | rfl | (simp; done)) | refine Own.past ?_ _)) hbwa; have ca := oa.cell; have la := oa.lt; have ya := (hBwa.cell (p := ⟨g, 2, none⟩) gl).trans g2; have za := hBwa.size; have gla : g < wa.heap.size := Nat.lt_of_lt_of_le gl za))
  go_wp2
  clear g2
  go_region_with (first | (go_at_call 105; refine (HI.out _ _ ?_ ?_ ?_).mono ?_; (· with_reducible (repeat' first | assumption | exact Below.refl _ _ | refine Below.drew ?_ | refine bdrewN ?_ _ | refine Below.setCell ?_ (by first | exact Nat.le_refl _ | (simp; done) | (simp; omega) | omega) _ | refine Below.alloc ?_ (by first | exact Nat.le_refl _ | (simp; done) | (simp; omega) | omega) _)); (· go_loud (first | omega | (simp; omega))); (· go_loud (first | exact heap_alloc_new _ _ | (simp; done))); rintro e wb ⟨v', rfl, og, ⟨qq, qn, qc, rfl⟩, hP⟩; have cg := og.cell; have fg := og.fro; have lg := og.lt; have HP : Hid _ := hP; clear hP))
  go_wp2
  all_goals first | exact HP.out | (go_ret; exact HP.out)
set_option maxRecDepth 100000 in
set_option maxHeartbeats 4000000 in
theorem lrem_no (w : World) (g : Nat) (r c : Int) (v : Value) (l : List Rct) (k0 k1 k2 k3 : Int) (ho : Hid (Own w g #[.int .i64 r, .int .i64 c, v])) (hv : Hid (RowR w v l)) (hl : l.length ≤ 4000000000000) (hS : Hid (MonoF (fR k0 k1 k2 k3) l)) (hh : hasF (fR k0 k1 k2 k3) l = false) :
    Calls Tryz.prog 62 #[.pointer (some ⟨g, 0, none⟩), .agg #[.int .i64 k0, .int .i64 k1, .int .i64 k2, .int .i64 k3]] w fun e w' => e = .returned (.bool false) ∧ Below w.heap.size w w' := by
  have mixed : Tryz.prog.follows .mixedOrders = true := by kernel_rfl
  have g2 : w.cell? ⟨g, 2, none⟩ = some v := ho.out.cell 2
  have gl := ho.out.lt
  have H : Hid (∀ W, Below w.heap.size w W → Calls Tryz.prog 93 #[v, .agg #[.int .i64 k0, .int .i64 k1, .int .i64 k2, .int .i64 k3], .func (.func 68) #[] #[]] W fun e w' => e = .returned (.tuple #[.int .i64 (idxF (fR k0 k1 k2 k3) l), .bool false]) ∧ Below W.heap.size W w') := (show _ from fun W hb => by
    have := bs_anyr W v l k0 k1 k2 k3 (fR k0 k1 k2 k3) (hv.out.keep hb) hl hS.out (fun W' _ x _ => orec_any x.t x.l x.b x.r k0 k1 k2 k3 W')
    rw [hh] at this
    exact this)
  generalize idxF (fR k0 k1 k2 k3) l = i at *
  clear hh hS hv ho
  go_enter Tryz.func62, Tryz.ntmps62
  go_wp2
  go_region_held3 (fun w' => w'.cell? ⟨g, 2, none⟩ = some v ∧ w'.cell? ⟨w.heap.size, 0, none⟩ = some (.int .i64 k0) ∧ w'.cell? ⟨w.heap.size, 1, none⟩ = some (.int .i64 k1) ∧ w'.cell? ⟨w.heap.size, 2, none⟩ = some (.int .i64 k2) ∧ w'.cell? ⟨w.heap.size, 3, none⟩ = some (.int .i64 k3)) ((repeat' apply And.intro) <;> (first | (go_keep; done) | (go_simp; done))) ((go_at_call 93; refine (H.out _ zqb).mono ?_; rintro e wa ⟨rfl, hbwa⟩; have hBwa : Below w.heap.size w wa := bup zqb hbwa; have oa : Own wa w.heap.size #[.int .i64 k0, .int .i64 k1, .int .i64 k2, .int .i64 k3] := Own.keep (by with_reducible (repeat' first | assumption | refine Own.drew ?_ | refine Own.drewN ?_ _ | (refine Own.at ?_; first | rfl | (simp; done)) | refine Own.past ?_ _)) hbwa; have ca := oa.cell; have ya := (hBwa.cell (p := ⟨g, 2, none⟩) gl).trans g2))
  go_wp2
  go_ret
  exact ⟨rfl, hBwa⟩
set_option maxRecDepth 100000 in
set_option maxHeartbeats 4000000 in
theorem lrem_yes (w : World) (g : Nat) (r c : Int) (v : Value) (l : List Rct) (k0 k1 k2 k3 : Int) (ho : Hid (Own w g #[.int .i64 r, .int .i64 c, v])) (hv : Hid (RowR w v l)) (hng : v.ownBlock ≠ some g) (hl : l.length ≤ 4000000000000) (hS : Hid (MonoF (fR k0 k1 k2 k3) l)) (hh : hasF (fR k0 k1 k2 k3) l = true) :
    Calls Tryz.prog 62 #[.pointer (some ⟨g, 0, none⟩), .agg #[.int .i64 k0, .int .i64 k1, .int .i64 k2, .int .i64 k3]] w (LookP w g r c v (loF (fR k0 k1 k2 k3) l ++ hiF (fR k0 k1 k2 k3) l)) := by
  have mixed : Tryz.prog.follows .mixedOrders = true := by kernel_rfl
  have g2 : w.cell? ⟨g, 2, none⟩ = some v := ho.out.cell 2
  have gl := ho.out.lt
  have H : Hid (∀ W, Below w.heap.size w W → Calls Tryz.prog 93 #[v, .agg #[.int .i64 k0, .int .i64 k1, .int .i64 k2, .int .i64 k3], .func (.func 68) #[] #[]] W fun e w' => e = .returned (.tuple #[.int .i64 (idxF (fR k0 k1 k2 k3) l), .bool true]) ∧ Below W.heap.size W w') := (show _ from fun W hb => by
    have := bs_anyr W v l k0 k1 k2 k3 (fR k0 k1 k2 k3) (hv.out.keep hb) hl hS.out (fun W' _ x _ => orec_any x.t x.l x.b x.r k0 k1 k2 k3 W')
    rw [hh] at this
    exact this)
  have HI : Hid (∀ W, Below w.heap.size w W → Calls Tryz.prog 94 #[v, .int .i64 (idxF (fR k0 k1 k2 k3) l)] W fun e w' => ∃ v', e = .returned v' ∧ Own w' g #[.int .i64 r, .int .i64 c, v] ∧ (∃ q n cp, v' = .slice q n cp) ∧ LookP w g r c v (loF (fR k0 k1 k2 k3) l ++ hiF (fR k0 k1 k2 k3) l) (.returned (.bool true)) (w'.setCell ⟨g, 2, none⟩ v')) := (show _ from fun W hb => by
    have hvW := hv.out.keep hb
    have hgW := ho.out.keep hb
    obtain ⟨_, _, _, hlt⟩ := has_idx hS.out hh
    refine (wo_anyr W v l (idxF (fR k0 k1 k2 k3) l) hvW hlt hl).mono ?_
    rintro e w' ⟨v', rfl, p1, p2, p3⟩
    rw [drop_has hS.out hh] at p1
    have hgo : Own w' g #[.int .i64 r, .int .i64 c, v] := hgW.mut p3 hng
    have hob : ∀ b, v'.ownBlock = some b → v.ownBlock = some b ∨ w.heap.size ≤ b := fun b q => (p2 b q).imp id (fun s => Nat.le_trans hb.size s)
    refine ⟨v', rfl, hgo, p1.slice, rfl, v', own_put (k := 2) hgo (by simp), p1.aside _ (fun b q => ?_), hob, ?_⟩
    · rcases hob b q with s | s
      · intro e; simp at e; subst e; exact hng s
      · simp; omega
    · exact Mut.set (Mut.call (Mut.of_below hb) p3 (fun b q => .inl (.inr q))) (.inl (.inl rfl)) _)
  revert HI
  generalize LookP w g r c v (loF (fR k0 k1 k2 k3) l ++ hiF (fR k0 k1 k2 k3) l) = PP
  intro HI
  generalize idxF (fR k0 k1 k2 k3) l = i at *
  clear hh hS hv ho hng
  go_enter Tryz.func62, Tryz.ntmps62
  go_wp2
  go_region_held3 (fun w' => w'.cell? ⟨g, 2, none⟩ = some v ∧ w'.cell? ⟨w.heap.size, 0, none⟩ = some (.int .i64 k0) ∧ w'.cell? ⟨w.heap.size, 1, none⟩ = some (.int .i64 k1) ∧ w'.cell? ⟨w.heap.size, 2, none⟩ = some (.int .i64 k2) ∧ w'.cell? ⟨w.heap.size, 3, none⟩ = some (.int .i64 k3)) ((repeat' apply And.intro) <;> (first | (go_keep; done) | (go_simp; done))) ((go_at_call 93; refine (H.out _ zqb).mono ?_; rintro e wa ⟨rfl, hbwa⟩; have hBwa : Below w.heap.size w wa := bup zqb hbwa; have oa : Own wa w.heap.size #[.int .i64 k0, .int .i64 k1, .int .i64 k2, .int .i64 k3] := Own.keep (by with_reducible (repeat' first | assumption | refine Own.drew ?_ | refine Own.drewN ?_ _ | (refine Own.at ?_; first | rfl | (simp; done)) | refine Own.past ?_ _)) hbwa; have ca := oa.cell; have la := oa.lt; have ya := (hBwa.cell (p := ⟨g, 2, none⟩) gl).trans g2; have za := hBwa.size; have gla : g < wa.heap.size := Nat.lt_of_lt_of_le gl za))
  go_wp2_with (go_at_call 94; refine (HI.out _ zqb).mono ?_; rintro e wb ⟨v', rfl, og, ⟨qq, qn, qc, rfl⟩, hP⟩; have cg := og.cell; have fg := og.fro; have lg := og.lt; have HP : Hid _ := hP; clear hP)
  all_goals first | exact HP.out | (go_ret; exact HP.out)
end Go.Proofs.YtcjanaldjokllaaGreat
namespace Go.Proofs.YtcjanaldjokllaaGreat
open Go.RowKit
set_option linter.all false
/-- A looker: its block, its rectangles' row, its rectangles. -/
structure Lo where
  g : Nat
  v : Value
  l : List Rct
abbrev KF := Int → Int → Option Lo
def ltR (x y : Rct) : Prop := cmpR x.t x.l x.b x.r y.t y.l y.b y.r < 0
theorem ltR_is (x y : Rct) : ltR x y ↔ (x.t < y.t ∨ (x.t = y.t ∧ (x.l < y.l ∨ (x.l = y.l ∧ (x.b < y.b ∨ (x.b = y.b ∧ x.r < y.r)))))) := cmpR_neg _ _ _ _ _ _ _ _
def SrtR (l : List Rct) : Prop := l.Pairwise ltR
theorem SrtR.mono {l : List Rct} (h : SrtR l) (k0 k1 k2 k3 : Int) : MonoF (fR k0 k1 k2 k3) l := by
  refine List.Pairwise.imp ?_ h
  intro x y hxy hy
  unfold fR at hy ⊢
  rw [ltR_is] at hxy
  rw [cmpR_neg]
  have h1 := cmpR_neg y.t y.l y.b y.r k0 k1 k2 k3
  have h2 := cmpR_zero y.t y.l y.b y.r k0 k1 k2 k3
  omega
/-- The seats stand in the order of their lookers' cells. -/
def ltS (D : Nat → Option Tag) (s s' : Seat) : Prop := rOf D s.g < rOf D s'.g ∨ (rOf D s.g = rOf D s'.g ∧ cOf D s.g < cOf D s'.g)
theorem srt_mono {D : Nat → Option Tag} {l : List Seat} (h : l.Pairwise (ltS D)) (r c : Int) : MonoF (fC D r c) l := by
  refine List.Pairwise.imp ?_ h
  intro x y hxy hy
  unfold fC at hy ⊢
  unfold ltS at hxy
  rw [cmpC_neg]
  have h1 := cmpC_neg (rOf D y.g) (cOf D y.g) r c
  have h2 := cmpC_zero (rOf D y.g) (cOf D y.g) r c
  omega
/-- A crowd: of each cell as many as n says. -/
structure CrowdOK (D : Nat → Option Tag) (K : KF) (l : List Seat) (n : Int → Int → Nat) : Prop where
  srt : l.Pairwise (ltS D)
  who : ∀ s ∈ l, ∃ r c k, K r c = some k ∧ k.g = s.g ∧ D s.g = some (2, r, c) ∧ s.n = n r c ∧ 0 < n r c
  all : ∀ r c, 0 < n r c → ∃ s ∈ l, D s.g = some (2, r, c)
structure LoW (w : World) (D : Nat → Option Tag) (m : Nat) (r c : Int) (k : Lo) : Prop where
  tag : D k.g = some (2, r, c)
  own : Own w k.g #[.int .i64 r, .int .i64 c, k.v]
  row : RowR w k.v k.l
  rt : ∀ b, k.v.ownBlock = some b → D b = some (3, r, c)
  srt : SrtR k.l
  few : k.l.length ≤ m
  may : mayC r c = true
/-- The bands in memory: K tells the lookers, NN how many rectangles of a cell's looker are counted in a crowd. -/
structure MW (w : World) (N : Nat) (D : Nat → Option Tag) (K : KF) (NN : Nat → Int → Int → Nat) (m : Nat) : Prop where
  dom : ∀ b t, D b = some t → b < w.heap.size
  at0 : D N = some (0, 0, 0)
  lo : ∀ r c k, K r c = some k → LoW w D m r c k
  own : ∃ A : Array Value, Own w N A ∧ A.size = 65 ∧ ∀ j : Nat, j < 65 → ∃ v l, A[j]? = some v ∧ RowS w v l ∧ (∀ b, v.ownBlock = some b → D b = some (1, (j : Int), 0)) ∧ CrowdOK D K l (NN j)
  few : ∀ j r c, NN j r c ≤ m
theorem LoW.of_block {w w' : World} {D D' : Nat → Option Tag} {m m' : Nat} {r c : Int} {k : Lo} (h : LoW w D m r c k) (hb : ∀ b t, D b = some t → t = (2, r, c) ∨ t = (3, r, c) → w'.heap[b]? = w.heap[b]?) (hD : ∀ b t, D b = some t → D' b = some t) (hm : m ≤ m') : LoW w' D' m' r c k :=
  ⟨hD _ _ h.tag, h.own.of_block (hb _ _ h.tag (.inl rfl)), h.row.of_block (fun b q => hb b _ (h.rt b q) (.inr rfl)), fun b q => hD _ _ (h.rt b q), h.srt, Nat.le_trans h.few hm, h.may⟩
theorem MW.of_block {w w' : World} {N : Nat} {D : Nat → Option Tag} {K : KF} {NN : Nat → Int → Int → Nat} {m m' : Nat} (h : MW w N D K NN m) (hs : w.heap.size ≤ w'.heap.size) (hb : ∀ b t, D b = some t → w'.heap[b]? = w.heap[b]?) (hm : m ≤ m') : MW w' N D K NN m' := by
  obtain ⟨A, a1, a2, a3⟩ := h.own
  refine ⟨fun b t e => Nat.lt_of_lt_of_le (h.dom b t e) hs, h.at0, fun r c k e => (h.lo r c k e).of_block (fun b t q _ => hb b t q) (fun _ _ q => q) hm, ⟨A, a1.of_block (hb _ _ h.at0), a2, fun j hj => ?_⟩, fun j r c => Nat.le_trans (h.few j r c) hm⟩
  obtain ⟨v, l, b1, b2, b3, b4⟩ := a3 j hj
  exact ⟨v, l, b1, b2.of_block (fun b q => hb b _ (b3 b q)), b3, b4⟩
theorem MW.keep {w w' : World} {N : Nat} {D : Nat → Option Tag} {K : KF} {NN : Nat → Int → Int → Nat} {m : Nat} (h : MW w N D K NN m) (hb : Below w.heap.size w w') : MW w' N D K NN m :=
  h.of_block hb.size (fun b t e => hb.block b (h.dom b t e)) (Nat.le_refl _)
theorem MW.more {w : World} {N : Nat} {D : Nat → Option Tag} {K : KF} {NN : Nat → Int → Int → Nat} {m m' : Nat} (h : MW w N D K NN m) (hm : m ≤ m') : MW w N D K NN m' :=
  h.of_block (Nat.le_refl _) (fun _ _ _ => rfl) hm
theorem MW.mut {T : Nat → Prop} {w w' : World} {N : Nat} {D : Nat → Option Tag} {K : KF} {NN : Nat → Int → Int → Nat} {m : Nat} (h : MW w N D K NN m) (hm : Mut T w w') (hd : ∀ b, (D b).isSome = true → ¬ T b) : MW w' N D K NN m :=
  h.of_block hm.size (fun b t e => hm.block b (h.dom b t e) (hd b (by rw [e]; rfl))) (Nat.le_refl _)
theorem MW.lt {w : World} {N : Nat} {D : Nat → Option Tag} {K : KF} {NN : Nat → Int → Int → Nat} {m : Nat} (h : MW w N D K NN m) : N < w.heap.size := h.dom _ _ h.at0
theorem rOf_of {D : Nat → Option Tag} {g a : Nat} {r c : Int} (h : D g = some (a, r, c)) : rOf D g = r ∧ cOf D g = c := by unfold rOf cOf; rw [h]; exact ⟨rfl, rfl⟩
/-- The lookers' cells as the crowd sees them. -/
theorem MW.sees {w : World} {N : Nat} {D : Nat → Option Tag} {K : KF} {NN : Nat → Int → Int → Nat} {m : Nat} (h : MW w N D K NN m) {l : List Seat} {n : Int → Int → Nat} (hc : CrowdOK D K l n) : SeesW w D l := fun s hs => by
  obtain ⟨r, c, k, e1, e2, e3, _⟩ := hc.who s hs
  have ho := (h.lo r c k e1).own
  rw [e2] at ho
  rw [(rOf_of e3).1, (rOf_of e3).2]
  exact ⟨ho.lt, ho.cell 0, ho.cell 1⟩
theorem pw_len {α : Type} {f : α → Int} {M : Int} : ∀ (l : List α) (lo : Int), l.Pairwise (fun x y => f x < f y) → (∀ x ∈ l, lo ≤ f x ∧ f x < M) → lo ≤ M → (l.length : Int) ≤ M - lo
  | [], lo, _, _, h => by simp; omega
  | x :: t, lo, hp, hx, h => by
    have h1 := hx x (by simp)
    have ih := pw_len t (f x + 1) (List.pairwise_cons.1 hp).2 (fun y hy => ⟨by have := (List.pairwise_cons.1 hp).1 y hy; omega, (hx y (List.mem_cons_of_mem _ hy)).2⟩) (by omega)
    simp only [List.length_cons]
    omega
/-- No more seats than cells. -/
theorem MW.seats {w : World} {N : Nat} {D : Nat → Option Tag} {K : KF} {NN : Nat → Int → Int → Nat} {m : Nat} (h : MW w N D K NN m) {l : List Seat} {n : Int → Int → Nat} (hc : CrowdOK D K l n) : l.length ≤ 1048576 := by
  have hw : ∀ s ∈ l, 1 ≤ rOf D s.g ∧ rOf D s.g ≤ 4096 ∧ 1 ≤ cOf D s.g ∧ cOf D s.g ≤ 256 := fun s hs => by
    obtain ⟨r, c, k, e1, e2, e3, _⟩ := hc.who s hs
    have := mayC_is (h.lo r c k e1).may
    rw [(rOf_of e3).1, (rOf_of e3).2]
    exact this
  have hp : l.Pairwise (fun x y => (rOf D x.g * 256 + cOf D x.g) < (rOf D y.g * 256 + cOf D y.g)) := by
    refine List.Pairwise.imp_of_mem ?_ hc.srt
    intro x y hx hy hxy
    have h1 := hw x hx
    have h2 := hw y hy
    unfold ltS at hxy
    omega
  have := pw_len (f := fun s : Seat => rOf D s.g * 256 + cOf D s.g) (M := 4096 * 256 + 256 + 1) l (256 + 1) hp (fun x hx => by have := hw x hx; omega) (by omega)
  omega
/-- What is at a cell's place. -/
theorem CrowdOK.hit {D : Nat → Option Tag} {K : KF} {l : List Seat} {n : Int → Int → Nat} (hc : CrowdOK D K l n) (r c : Int) : hasF (fC D r c) l = decide (0 < n r c) := by
  unfold hasF
  rw [Bool.eq_iff_iff, List.any_eq_true, decide_eq_true_iff]
  constructor
  · rintro ⟨s, hs, h0⟩
    have h0 := (cmpC_zero _ _ _ _).1 (of_decide_eq_true h0)
    obtain ⟨r', c', k, e1, e2, e3, e4, e5⟩ := hc.who s hs
    rw [(rOf_of e3).1, (rOf_of e3).2] at h0
    rw [← h0.1, ← h0.2]
    exact e5
  · intro h0
    obtain ⟨s, hs, e⟩ := hc.all r c h0
    refine ⟨s, hs, decide_eq_true ((cmpC_zero _ _ _ _).2 ?_)⟩
    rw [(rOf_of e).1, (rOf_of e).2]
    exact ⟨rfl, rfl⟩
end Go.Proofs.YtcjanaldjokllaaGreat
