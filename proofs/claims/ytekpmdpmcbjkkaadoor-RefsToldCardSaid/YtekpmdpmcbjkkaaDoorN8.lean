/- The contract of refs's measure: of every list of nodes its depth, and whether nothing else is wrong with it. New memory alone is made. The condition: the numbers in the nodes' values are int64. -/
import Derived.Test.YtekpmdpmcbjkkaaDoorN7
namespace Go.Proofs.YtekpmdpmcbjkkaaDoor
open Go.Shelf Go.RowKit
set_option linter.all false
set_option maxRecDepth 100000 in
set_option maxHeartbeats 40000000 in
theorem measure_y (w : World) (b o cap n : Nat) (ns : List Nd) (hlb : b < w.heap.size) (HC : ∀ i x, ns[i]? = some x → ∀ j, j < 15 → w.cell? ⟨b, o + i * 15 + j, none⟩ = (Nd.cells x)[j]?)
    (hn : ns.length = n) (hcap : n ≤ cap) (h0 : 0 < n) (hl : n ≤ 1024) (hwf : ∀ x ∈ ns, Vv.I64 x.num) :
    Calls Tryd.prog 16 #[.slice (some ⟨b, o, none⟩) n cap] w fun e w' => e = .returned (measOut (measN ns)) ∧ Below w.heap.size w w' := by
  have mixed : Tryd.prog.follows .mixedOrders = true := by kernel_rfl
  have HC' : Hid _ := HC
  have HN : Hid (ns.length = n) := hn
  have HWF : Hid _ := hwf
  have HME : Hid (measN ns = (putFrom [] ns).bind measL) := by show _ = _; unfold measN; rw [if_neg (by omega)]
  clear HC hn hwf
  obtain ⟨i0, hi0, hz0, hz1, hz2⟩ := info_parts infoTh
  have HI : Hid _ := hi0
  have HZ0 : Hid _ := hz0
  have HZ1 : Hid _ := hz1
  have HZ2 : Hid _ := hz2
  clear hi0 hz0 hz1 hz2
  go_enter Tryd.func16, Tryd.ntmps16
  go_wp2
  go_loopw [4, 15] (fun tv v w' => ∃ (i : Nat) (st : List Th), v = .int .i64 i ∧ i ≤ n ∧ Hid (putFrom st (ns.drop i) = putFrom [] ns) ∧ TRow w' w.heap.size tv st ∧ Below w.heap.size w w' ∧ st.length ≤ i ∧ Hid (∀ t ∈ st, t.dep ≤ i)) (fun _ v _ => n - (intOf v).toNat)
  case atStart => exact ⟨0, [], rfl, by omega, rfl, Row.nil _ _, Below.refl _ _, Nat.zero_le _, fun t ht => by cases ht⟩
  case round =>
    obtain ⟨i, st, rfl, hi, hput, hrow, hB, hsl, hdep⟩ := hrel
    have z := hB.size
    by_cases hlt : i < n
    · have hlt' : (i : Int) < n := by omega
      have hti : ns[i]? = some (ns[i]'(by rw [HN.out]; exact hlt)) := List.getElem?_eq_getElem _
      have hnum := HWF.out _ (List.mem_of_getElem? hti)
      have cx := fun j hj => (show wr.cell? ⟨b, o + i * 15 + j, none⟩ = _ from (hB.cell (p := ⟨b, o + i * 15 + j, none⟩) hlb).trans (HC'.out i _ hti j hj))
      have HTI : Hid _ := hti
      revert hnum cx HTI
      generalize (ns[i]'(by rw [HN.out]; exact hlt)) = nd
      intro hnum cx HTI
      clear hti
      have x0 : wr.cell? ⟨b, o + i * 15, none⟩ = some (.int .i64 nd.kind) := cx 0 (by decide)
      have x1 : wr.cell? ⟨b, o + i * 15 + 1, none⟩ = some (.int .i64 nd.tag) := cx 1 (by decide)
      have x2 : wr.cell? ⟨b, o + i * 15 + 2, none⟩ = some (.int .i64 nd.num) := cx 2 (by decide)
      have x3 : wr.cell? ⟨b, o + i * 15 + 3, none⟩ = some (.string nd.str) := cx 3 (by decide)
      have x4 : wr.cell? ⟨b, o + i * 15 + 4, none⟩ = some (.bool nd.is) := cx 4 (by decide)
      have x5 : wr.cell? ⟨b, o + i * 15 + 5, none⟩ = some (.int .i64 nd.code) := cx 5 (by decide)
      have x6 : wr.cell? ⟨b, o + i * 15 + 6, none⟩ = some (.int .i64 nd.row) := cx 6 (by decide)
      have x7 : wr.cell? ⟨b, o + i * 15 + 7, none⟩ = some (.int .i64 nd.col) := cx 7 (by decide)
      have x8 : wr.cell? ⟨b, o + i * 15 + 8, none⟩ = some (.int .i64 nd.top) := cx 8 (by decide)
      have x9 : wr.cell? ⟨b, o + i * 15 + 9, none⟩ = some (.int .i64 nd.left) := cx 9 (by decide)
      have x10 : wr.cell? ⟨b, o + i * 15 + 10, none⟩ = some (.int .i64 nd.bot) := cx 10 (by decide)
      have x11 : wr.cell? ⟨b, o + i * 15 + 11, none⟩ = some (.int .i64 nd.right) := cx 11 (by decide)
      have x12 : wr.cell? ⟨b, o + i * 15 + 12, none⟩ = some (.int .i64 nd.op) := cx 12 (by decide)
      have x13 : wr.cell? ⟨b, o + i * 15 + 13, none⟩ = some (.string nd.name) := cx 13 (by decide)
      have x14 : wr.cell? ⟨b, o + i * 15 + 14, none⟩ = some (.int .i64 nd.args) := cx 14 (by decide)
      clear cx
      have HM : Hid (∀ w, Calls Tryd.prog 20 #[.agg #[.int .i64 nd.kind, .int .i64 nd.tag, .int .i64 nd.num, .string nd.str, .bool nd.is, .int .i64 nd.code, .int .i64 nd.row, .int .i64 nd.col, .int .i64 nd.top, .int .i64 nd.left, .int .i64 nd.bot, .int .i64 nd.right, .int .i64 nd.op, .string nd.name, .int .i64 nd.args]] w fun e w' => e = .returned (.bool (mayN nd)) ∧ Below w.heap.size w w') := fun w => mayN_any nd w hnum
      have HT : Hid (∀ w, Calls Tryd.prog 21 #[.agg #[.int .i64 nd.kind, .int .i64 nd.tag, .int .i64 nd.num, .string nd.str, .bool nd.is, .int .i64 nd.code, .int .i64 nd.row, .int .i64 nd.col, .int .i64 nd.top, .int .i64 nd.left, .int .i64 nd.bot, .int .i64 nd.right, .int .i64 nd.op, .string nd.name, .int .i64 nd.args]] w fun e w' => e = .returned (.int .i64 (takI nd)) ∧ Below w.heap.size w w') := fun w => takI_any nd w
      clear hnum
      obtain ⟨tp, tc, rfl, htc, htm⟩ := hrow.slice
      cases hmay : mayN nd
      · rw [hmay] at HM
        have HW : Hid (measN ns = none) := by show _ = _; rw [HME.out, ← hput.out, putFrom_no HTI.out (step_may hmay)]; rfl
        clear hmay
        go_wp2_with (go_at_call 20; refine (HM.out _).mono ?_; rintro e w1 ⟨rfl, hb⟩; have hB1 : Below w.heap.size w w1 := bup (by with_reducible (repeat' first | assumption | exact Below.refl _ _ | refine Below.drew ?_ | refine bdrewN ?_ _ | refine Below.setCell ?_ (by first | exact Nat.le_refl _ | (simp; done) | (simp; omega) | omega) _ | refine Below.alloc ?_ (by first | exact Nat.le_refl _ | (simp; done) | (simp; omega) | omega) _)) hb; have o0 : Own w1 (wr.heap.size) #[.int .i64 nd.kind, .int .i64 nd.tag, .int .i64 nd.num, .string nd.str, .bool nd.is, .int .i64 nd.code, .int .i64 nd.row, .int .i64 nd.col, .int .i64 nd.top, .int .i64 nd.left, .int .i64 nd.bot, .int .i64 nd.right, .int .i64 nd.op, .string nd.name, .int .i64 nd.args] := Own.keep (by with_reducible (repeat' first | assumption | refine Own.drew ?_ | refine Own.drewN ?_ _ | (refine Own.at ?_; first | rfl | (simp; done)) | refine Own.past ?_ _ | refine Own.aside ?_ (by first | (simp; done) | (simp; omega) | omega) _)) hb; have c0 := o0.cell; have f0 := o0.fro; have l0 := o0.lt)
        go_ret2
        exact ⟨by rw [HW.out]; rfl, by first | assumption | (with_reducible (repeat' first | assumption | exact Below.refl _ _ | refine Below.drew ?_ | refine bdrewN ?_ _ | refine Below.setCell ?_ (by first | exact Nat.le_refl _ | (simp; done) | (simp; omega) | omega) _ | refine Below.alloc ?_ (by first | exact Nat.le_refl _ | (simp; done) | (simp; omega) | omega) _))⟩
      have hma := may_args hmay
      rw [hmay] at HM
      obtain ⟨k, hk⟩ : ∃ k : Nat, takI nd = k := ⟨(takI nd).toNat, by omega⟩
      have hkN : takN nd = k := by unfold takN; omega
      rw [hk] at HT hma
      by_cases hfew : st.length < k
      · have hfew' : (st.length : Int) < k := by omega
        have HW : Hid (measN ns = none) := by show _ = _; rw [HME.out, ← hput.out, putFrom_no HTI.out (step_few (by omega))]; rfl
        clear hmay hma hk hkN
        go_wp2_with (first | (go_at_call 20; refine (HM.out _).mono ?_; rintro e w1 ⟨rfl, hb⟩; have hB1 : Below w.heap.size w w1 := bup (by with_reducible (repeat' first | assumption | exact Below.refl _ _ | refine Below.drew ?_ | refine bdrewN ?_ _ | refine Below.setCell ?_ (by first | exact Nat.le_refl _ | (simp; done) | (simp; omega) | omega) _ | refine Below.alloc ?_ (by first | exact Nat.le_refl _ | (simp; done) | (simp; omega) | omega) _)) hb; have o0 : Own w1 (wr.heap.size) #[.int .i64 nd.kind, .int .i64 nd.tag, .int .i64 nd.num, .string nd.str, .bool nd.is, .int .i64 nd.code, .int .i64 nd.row, .int .i64 nd.col, .int .i64 nd.top, .int .i64 nd.left, .int .i64 nd.bot, .int .i64 nd.right, .int .i64 nd.op, .string nd.name, .int .i64 nd.args] := Own.keep (by with_reducible (repeat' first | assumption | refine Own.drew ?_ | refine Own.drewN ?_ _ | (refine Own.at ?_; first | rfl | (simp; done)) | refine Own.past ?_ _ | refine Own.aside ?_ (by first | (simp; done) | (simp; omega) | omega) _)) hb; have c0 := o0.cell; have f0 := o0.fro; have l0 := o0.lt) | (go_at_call 21; refine (HT.out _).mono ?_; rintro e w1 ⟨rfl, hb⟩; have hB1 : Below w.heap.size w w1 := bup (by with_reducible (repeat' first | assumption | exact Below.refl _ _ | refine Below.drew ?_ | refine bdrewN ?_ _ | refine Below.setCell ?_ (by first | exact Nat.le_refl _ | (simp; done) | (simp; omega) | omega) _ | refine Below.alloc ?_ (by first | exact Nat.le_refl _ | (simp; done) | (simp; omega) | omega) _)) hb; have o0 : Own w1 (wr.heap.size) #[.int .i64 nd.kind, .int .i64 nd.tag, .int .i64 nd.num, .string nd.str, .bool nd.is, .int .i64 nd.code, .int .i64 nd.row, .int .i64 nd.col, .int .i64 nd.top, .int .i64 nd.left, .int .i64 nd.bot, .int .i64 nd.right, .int .i64 nd.op, .string nd.name, .int .i64 nd.args] := Own.keep (by with_reducible (repeat' first | assumption | refine Own.drew ?_ | refine Own.drewN ?_ _ | (refine Own.at ?_; first | rfl | (simp; done)) | refine Own.past ?_ _ | refine Own.aside ?_ (by first | (simp; done) | (simp; omega) | omega) _)) hb; have c0 := o0.cell; have f0 := o0.fro; have l0 := o0.lt))
        go_ret2
        exact ⟨by rw [HW.out]; rfl, by first | assumption | (with_reducible (repeat' first | assumption | exact Below.refl _ _ | refine Below.drew ?_ | refine bdrewN ?_ _ | refine Below.setCell ?_ (by first | exact Nat.le_refl _ | (simp; done) | (simp; omega) | omega) _ | refine Below.alloc ?_ (by first | exact Nat.le_refl _ | (simp; done) | (simp; omega) | omega) _))⟩
      have hfew' : ¬ (st.length : Int) < k := by omega
      have HMY : Hid (mayN nd = true ∧ takI nd ≤ (st.length : Int) ∧ takN nd = k) := ⟨hmay, by omega, hkN⟩
      have HMA : Hid _ := hma
      clear hmay hma hk hkN
      obtain ⟨r, hr⟩ : ∃ r, st.length = r + k := ⟨st.length - k, by omega⟩
      have HR : Hid (st.length - takN nd = r) := by show _ = _; rw [HMY.out.2.2]; omega
      have hk16 : k ≤ 16 := by have := HMA.out.2.1; omega
      have HLEN : Hid (st.length = r + k) := hr
      have hr0' : (0 : Int) ≤ (r : Int) := Int.natCast_nonneg _
      rcases hrow.two Th.cells_size with ⟨e, hst⟩ | ⟨g, cap', e, hg1, hg2, hg3, hg4, hg5, hg6⟩
      · subst hst
        obtain ⟨rfl, rfl⟩ : tp = none ∧ tc = 0 := by simpa using e
        obtain ⟨rfl, rfl⟩ : r = 0 ∧ k = 0 := by simp at hr; omega
        rw [List.length_nil] at hrow ⊢
        as_aux_lemma =>
          obtain ⟨t, ht⟩ : ∃ t, workN nd [] = some t := ⟨_, by simp [workN]; rfl⟩
          have HK : Hid (workN nd (List.drop 0 []) = some t) := ht
          clear ht e hr hfew hfew'
          have hstep := step_some HMY.out.1 HMY.out.2.1 (HR.out.symm ▸ HK.out)
          rw [HR.out] at hstep
          have HP2 : Hid (putFrom ((List.take 0 ([] : List Th)) ++ [t]) (ns.drop (i + 1)) = putFrom [] ns) := by show _ = _; rw [← hput.out, putFrom_yes HTI.out hstep]
          have HD2 : Hid (∀ x ∈ (List.take 0 ([] : List Th)) ++ [t], x.dep ≤ i + 1) := step_dep hstep hdep.out
          have HLT : Hid (((List.take 0 ([] : List Th))).length = 0) := by show _ = _; simp; try omega
          clear hstep
          go_wp2_with (first | (go_at_call 20; refine (HM.out _).mono ?_; rintro e w1 ⟨rfl, hb⟩; have hB1 : Below w.heap.size w w1 := bup (by with_reducible (repeat' first | assumption | exact Below.refl _ _ | refine Below.drew ?_ | refine bdrewN ?_ _ | refine Below.setCell ?_ (by first | exact Nat.le_refl _ | (simp; done) | (simp; omega) | omega) _ | refine Below.alloc ?_ (by first | exact Nat.le_refl _ | (simp; done) | (simp; omega) | omega) _)) hb; have o0 : Own w1 (wr.heap.size) #[.int .i64 nd.kind, .int .i64 nd.tag, .int .i64 nd.num, .string nd.str, .bool nd.is, .int .i64 nd.code, .int .i64 nd.row, .int .i64 nd.col, .int .i64 nd.top, .int .i64 nd.left, .int .i64 nd.bot, .int .i64 nd.right, .int .i64 nd.op, .string nd.name, .int .i64 nd.args] := Own.keep (by with_reducible (repeat' first | assumption | refine Own.drew ?_ | refine Own.drewN ?_ _ | (refine Own.at ?_; first | rfl | (simp; done)) | refine Own.past ?_ _ | refine Own.aside ?_ (by first | (simp; done) | (simp; omega) | omega) _)) hb; have c0 := o0.cell; have f0 := o0.fro; have l0 := o0.lt; have hr1 : TRow w1 w.heap.size (.slice none 0 0) ([] : List Th) := Row.keep (by with_reducible (repeat' first | assumption | refine Row.drew ?_ | refine Row.past ?_ _)) hb) | (go_at_call 21; refine (HT.out _).mono ?_; rintro e w1 ⟨rfl, hb⟩; have hB1 : Below w.heap.size w w1 := bup (by with_reducible (repeat' first | assumption | exact Below.refl _ _ | refine Below.drew ?_ | refine bdrewN ?_ _ | refine Below.setCell ?_ (by first | exact Nat.le_refl _ | (simp; done) | (simp; omega) | omega) _ | refine Below.alloc ?_ (by first | exact Nat.le_refl _ | (simp; done) | (simp; omega) | omega) _)) hb; have o0 : Own w1 (wr.heap.size) #[.int .i64 nd.kind, .int .i64 nd.tag, .int .i64 nd.num, .string nd.str, .bool nd.is, .int .i64 nd.code, .int .i64 nd.row, .int .i64 nd.col, .int .i64 nd.top, .int .i64 nd.left, .int .i64 nd.bot, .int .i64 nd.right, .int .i64 nd.op, .string nd.name, .int .i64 nd.args] := Own.keep (by with_reducible (repeat' first | assumption | refine Own.drew ?_ | refine Own.drewN ?_ _ | (refine Own.at ?_; first | rfl | (simp; done)) | refine Own.past ?_ _ | refine Own.aside ?_ (by first | (simp; done) | (simp; omega) | omega) _)) hb; have c0 := o0.cell; have f0 := o0.fro; have l0 := o0.lt; have hr1 : TRow w1 w.heap.size (.slice none 0 0) ([] : List Th) := Row.keep (by with_reducible (repeat' first | assumption | refine Row.drew ?_ | refine Row.past ?_ _)) hb))
          go_region_held3 (fun w' => w'.cell? ⟨wr.heap.size, 0, none⟩ = some (.int .i64 nd.kind) ∧ w'.cell? ⟨wr.heap.size, 1, none⟩ = some (.int .i64 nd.tag) ∧ w'.cell? ⟨wr.heap.size, 2, none⟩ = some (.int .i64 nd.num) ∧ w'.cell? ⟨wr.heap.size, 3, none⟩ = some (.string nd.str) ∧ w'.cell? ⟨wr.heap.size, 4, none⟩ = some (.bool nd.is) ∧ w'.cell? ⟨wr.heap.size, 5, none⟩ = some (.int .i64 nd.code) ∧ w'.cell? ⟨wr.heap.size, 6, none⟩ = some (.int .i64 nd.row) ∧ w'.cell? ⟨wr.heap.size, 7, none⟩ = some (.int .i64 nd.col) ∧ w'.cell? ⟨wr.heap.size, 8, none⟩ = some (.int .i64 nd.top) ∧ w'.cell? ⟨wr.heap.size, 9, none⟩ = some (.int .i64 nd.left) ∧ w'.cell? ⟨wr.heap.size, 10, none⟩ = some (.int .i64 nd.bot) ∧ w'.cell? ⟨wr.heap.size, 11, none⟩ = some (.int .i64 nd.right) ∧ w'.cell? ⟨wr.heap.size, 12, none⟩ = some (.int .i64 nd.op) ∧ w'.cell? ⟨wr.heap.size, 13, none⟩ = some (.string nd.name) ∧ w'.cell? ⟨wr.heap.size, 14, none⟩ = some (.int .i64 nd.args)) (first | with_reducible assumption | ((repeat' apply And.intro) <;> (first | (go_keep; done) | (go_simp; done)))) ((go_at_call 22; refine Calls.mono (work_nilR (l := List.drop 0 []) rfl nd _ _ _) ?_; rw [HK.out]; dsimp only [thOut, Th.cells]; rintro e w4 ⟨rfl, hb4⟩; have hB4 : Below w.heap.size w w4 := bup (by with_reducible (repeat' first | assumption | exact Below.refl _ _ | refine Below.drew ?_ | refine bdrewN ?_ _ | refine Below.setCell ?_ (by first | exact Nat.le_refl _ | (simp; done) | (simp; omega) | omega) _ | refine Below.alloc ?_ (by first | exact Nat.le_refl _ | (simp; done) | (simp; omega) | omega) _)) hb4; have o4 : Own w4 (wr.heap.size) #[.int .i64 nd.kind, .int .i64 nd.tag, .int .i64 nd.num, .string nd.str, .bool nd.is, .int .i64 nd.code, .int .i64 nd.row, .int .i64 nd.col, .int .i64 nd.top, .int .i64 nd.left, .int .i64 nd.bot, .int .i64 nd.right, .int .i64 nd.op, .string nd.name, .int .i64 nd.args] := Own.keep (by with_reducible (repeat' first | assumption | refine Own.drew ?_ | refine Own.drewN ?_ _ | (refine Own.at ?_; first | rfl | (simp; done)) | refine Own.past ?_ _ | refine Own.aside ?_ (by first | (simp; done) | (simp; omega) | omega) _)) hb4; have c4 := o4.cell; have l4 := o4.lt; have hr4 : TRow w4 w.heap.size (.slice none 0 0) ([] : List Th) := Row.keep (by with_reducible (repeat' first | assumption | refine Row.drew ?_ | refine Row.past ?_ _)) hb4; try (refine with_fact (p := Own w4 (w1.heap.size) #[.bool false, .int .i64 0, .int .i64 0]) ?_ ?_; (· (refine Own.keep ?_ hb4; with_reducible (repeat' first | assumption | refine Own.drew ?_ | refine Own.drewN ?_ _ | (refine Own.at ?_; first | rfl | (simp; done)) | refine Own.past ?_ _ | refine Own.aside ?_ (by first | (simp; done) | (simp; omega) | omega) _); done)); intro o5; have c5 := o5.cell; have l5 := o5.lt; have f5 := o5.fro)))
          · obtain ⟨w6, h6⟩ : ∃ w6, w4.alloc (.cells #[.bool t.many, .int .i64 t.lev, .int .i64 t.dep] 64) = w6 := ⟨_, rfl⟩
            obtain ⟨L, hL⟩ : ∃ L, w4.heap.size = L := ⟨_, rfl⟩
            have o6 : Own w6 L #[.bool t.many, .int .i64 t.lev, .int .i64 t.dep] := by rw [← h6, ← hL]; exact Own.new _ _ _
            have hr6 : TRow w6 w.heap.size (.slice none 0 0) ([] : List Th) := by rw [← h6]; exact Row.past hr4 _
            have hB6 : Below w.heap.size w w6 := by rw [← h6]; exact hB4.alloc hB4.size _
            have hgL : ∀ g', ((.slice none 0 0) : Value).ownBlock = some g' → g' ≠ L := by intro g' hg'; have hq := (Row.lt hr4 g' (by simpa [Value.ownBlock] using hg')).2; omega
            rw [h6, hL]
            clear h6 hL
            have hz6 := hB6.size
            have c6 := o6.cell
            have f6 := o6.fro
            have l6 := o6.lt
            go_wp2_with fail
            have hr5 : w6.ownsRow w.heap.size 64 3 (.slice none 0 0) 0 (flatC Th.cells (List.take 0 ([] : List Th))) := World.ownsRow_nil _ _ _ _
            go_region_held3 (fun w' => w'.cell? ⟨L, 0, none⟩ = some (.bool t.many) ∧ w'.cell? ⟨L, 1, none⟩ = some (.int .i64 t.lev) ∧ w'.cell? ⟨L, 2, none⟩ = some (.int .i64 t.dep)) (first | with_reducible assumption | ((repeat' apply And.intro) <;> (first | (go_keep; done) | (go_simp; done)))) ((refine step_append_lies _ (by rfl) _ _ _ (by rfl) w.heap.size 64 i0 _ 3 24 Tryd.underlying60 HI.out HZ0.out HZ1.out HZ2.out rfl (by decide) (.slice none 0 0) 0 (flatC Th.cells (List.take 0 ([] : List Th))) (by rfl) (by with_reducible (repeat' first | assumption | refine ownsRow_drew ?_ | refine World.ownsRow.alloc ?_ _)) ⟨w6.heap.size, 0, none⟩ 1 1 t.cells.toList (by rfl) (by rfl) (news_one w6 t.cells _) t.one (by decide) (by unfold maxLen; omega) (by omega) (by have := hB6.size; simp; omega) (w6.heap.size + 1) (by simp) ?_; intro g5 cap5 w5 hown5 hgrow5 hat5 hlt5; have o7 : Own w5 L #[.bool t.many, .int .i64 t.lev, .int .i64 t.dep] := own_grown (by with_reducible (repeat' first | assumption | refine Own.drew ?_ | refine Own.drewN ?_ _ | (refine Own.at ?_; first | rfl | (simp; done)) | refine Own.past ?_ _ | refine Own.aside ?_ (by first | (simp; done) | (simp; omega) | omega) _)) hgrow5 hgL; have c7 := o7.cell))
            go_wp2
            have hfin := app_row (c := Th.cells) (w := w) (l := (List.take 0 ([] : List Th))) (t := t) (by with_reducible (repeat' first | assumption | exact Below.refl _ _ | refine Below.drew ?_ | refine bdrewN ?_ _ | refine Below.setCell ?_ (by first | exact Nat.le_refl _ | (simp; done) | (simp; omega) | omega) _ | refine Below.alloc ?_ (by first | exact Nat.le_refl _ | (simp; done) | (simp; omega) | omega) _)) (fun g' hg' => (Row.lt hr6 g' (by simpa [Value.ownBlock] using hg')).1) HLT.out hown5 hgrow5
            go_roundw
            case rel => exact ⟨i + 1, (List.take 0 ([] : List Th)) ++ [t], by go_num, by omega, HP2, hfin.1, hfin.2, by have := HLT.out; (simp <;> omega), HD2⟩
            case measure => simp [intOf]; omega
          · obtain ⟨w6, h6⟩ : ∃ w6, ((w4.setCell ⟨w1.heap.size, 0, none⟩ (.bool t.many)).setCell ⟨w1.heap.size, 1, none⟩ (.int .i64 t.lev)).setCell ⟨w1.heap.size, 2, none⟩ (.int .i64 t.dep) = w6 := ⟨_, rfl⟩
            have hz1 := hB1.size
            have hgL : ∀ g', ((.slice none 0 0) : Value).ownBlock = some g' → g' ≠ w1.heap.size := by intro g' hg'; have hq := (Row.lt hr1 g' (by simpa [Value.ownBlock] using hg')).2; omega
            have hgL2 : ∀ g', ((.slice none 0 0) : Value).ownBlock = some g' → g' ≠ w1.heap.size := by intro g' hg'; have hq := (Row.lt hr1 g' hg').2; omega
            have o6 : Own w6 w1.heap.size #[.bool t.many, .int .i64 t.lev, .int .i64 t.dep] := by rw [← h6]; exact own_put3 o5
            have hr6 : TRow w6 w.heap.size (.slice none 0 0) ([] : List Th) := by rw [← h6]; exact Row.aside (Row.aside (Row.aside hr4 _ hgL2) _ hgL2) _ hgL2
            have hB6 : Below w.heap.size w w6 := by rw [← h6]; with_reducible (repeat' first | assumption | exact Below.refl _ _ | refine Below.drew ?_ | refine bdrewN ?_ _ | refine Below.setCell ?_ (by first | exact Nat.le_refl _ | (simp; done) | (simp; omega) | omega) _ | refine Below.alloc ?_ (by first | exact Nat.le_refl _ | (simp; done) | (simp; omega) | omega) _)
            obtain ⟨L, hL⟩ : ∃ L, w1.heap.size = L := ⟨_, rfl⟩
            rw [h6, hL]
            rw [hL] at o6 hgL
            clear h6 hL hgL2
            have hz6 := hB6.size
            have c6 := o6.cell
            have f6 := o6.fro
            have l6 := o6.lt
            go_wp2_with fail
            have hr5 : w6.ownsRow w.heap.size 64 3 (.slice none 0 0) 0 (flatC Th.cells (List.take 0 ([] : List Th))) := World.ownsRow_nil _ _ _ _
            go_region_held3 (fun w' => w'.cell? ⟨L, 0, none⟩ = some (.bool t.many) ∧ w'.cell? ⟨L, 1, none⟩ = some (.int .i64 t.lev) ∧ w'.cell? ⟨L, 2, none⟩ = some (.int .i64 t.dep)) (first | with_reducible assumption | ((repeat' apply And.intro) <;> (first | (go_keep; done) | (go_simp; done)))) ((refine step_append_lies _ (by rfl) _ _ _ (by rfl) w.heap.size 64 i0 _ 3 24 Tryd.underlying60 HI.out HZ0.out HZ1.out HZ2.out rfl (by decide) (.slice none 0 0) 0 (flatC Th.cells (List.take 0 ([] : List Th))) (by rfl) (by with_reducible (repeat' first | assumption | refine ownsRow_drew ?_ | refine World.ownsRow.alloc ?_ _)) ⟨w6.heap.size, 0, none⟩ 1 1 t.cells.toList (by rfl) (by rfl) (news_one w6 t.cells _) t.one (by decide) (by unfold maxLen; omega) (by omega) (by have := hB6.size; simp; omega) (w6.heap.size + 1) (by simp) ?_; intro g5 cap5 w5 hown5 hgrow5 hat5 hlt5; have o7 : Own w5 L #[.bool t.many, .int .i64 t.lev, .int .i64 t.dep] := own_grown (by with_reducible (repeat' first | assumption | refine Own.drew ?_ | refine Own.drewN ?_ _ | (refine Own.at ?_; first | rfl | (simp; done)) | refine Own.past ?_ _ | refine Own.aside ?_ (by first | (simp; done) | (simp; omega) | omega) _)) hgrow5 hgL; have c7 := o7.cell))
            go_wp2
            have hfin := app_row (c := Th.cells) (w := w) (l := (List.take 0 ([] : List Th))) (t := t) (by with_reducible (repeat' first | assumption | exact Below.refl _ _ | refine Below.drew ?_ | refine bdrewN ?_ _ | refine Below.setCell ?_ (by first | exact Nat.le_refl _ | (simp; done) | (simp; omega) | omega) _ | refine Below.alloc ?_ (by first | exact Nat.le_refl _ | (simp; done) | (simp; omega) | omega) _)) (fun g' hg' => (Row.lt hr6 g' (by simpa [Value.ownBlock] using hg')).1) HLT.out hown5 hgrow5
            go_roundw
            case rel => exact ⟨i + 1, (List.take 0 ([] : List Th)) ++ [t], by go_num, by omega, HP2, hfin.1, hfin.2, by have := HLT.out; (simp <;> omega), HD2⟩
            case measure => simp [intOf]; omega
      · obtain ⟨rfl, rfl⟩ : tp = some ⟨g, 0, none⟩ ∧ tc = cap' := by simpa using e
        rw [hr] at hg3 hrow hsl ⊢
        clear e hg5 hg6 hfew hfew'
        by_cases hk0 : k = 0
        · subst hk0
          rw [Nat.add_zero] at hg3 hrow hsl ⊢
          have hrc' : (r : Int) ≤ (tc : Int) := by omega
          by_cases hne : tc = r
          · subst hne
            as_aux_lemma =>
              obtain ⟨t, ht⟩ : ∃ t, workN nd [] = some t := ⟨_, by simp [workN]; rfl⟩
              have HK : Hid (workN nd (st.drop tc) = some t) := by show _ = _; rw [List.drop_of_length_le (by omega)]; exact ht
              clear ht
              have hstep := step_some HMY.out.1 HMY.out.2.1 (HR.out.symm ▸ HK.out)
              rw [HR.out] at hstep
              have HP2 : Hid (putFrom ((st.take tc) ++ [t]) (ns.drop (i + 1)) = putFrom [] ns) := by show _ = _; rw [← hput.out, putFrom_yes HTI.out hstep]
              have HD2 : Hid (∀ x ∈ (st.take tc) ++ [t], x.dep ≤ i + 1) := step_dep hstep hdep.out
              have HLT : Hid (((st.take tc)).length = tc) := by show _ = _; simp; try omega
              clear hstep
              go_wp2_with (first | (go_at_call 20; refine (HM.out _).mono ?_; rintro e w1 ⟨rfl, hb⟩; have hB1 : Below w.heap.size w w1 := bup (by with_reducible (repeat' first | assumption | exact Below.refl _ _ | refine Below.drew ?_ | refine bdrewN ?_ _ | refine Below.setCell ?_ (by first | exact Nat.le_refl _ | (simp; done) | (simp; omega) | omega) _ | refine Below.alloc ?_ (by first | exact Nat.le_refl _ | (simp; done) | (simp; omega) | omega) _)) hb; have o0 : Own w1 (wr.heap.size) #[.int .i64 nd.kind, .int .i64 nd.tag, .int .i64 nd.num, .string nd.str, .bool nd.is, .int .i64 nd.code, .int .i64 nd.row, .int .i64 nd.col, .int .i64 nd.top, .int .i64 nd.left, .int .i64 nd.bot, .int .i64 nd.right, .int .i64 nd.op, .string nd.name, .int .i64 nd.args] := Own.keep (by with_reducible (repeat' first | assumption | refine Own.drew ?_ | refine Own.drewN ?_ _ | (refine Own.at ?_; first | rfl | (simp; done)) | refine Own.past ?_ _ | refine Own.aside ?_ (by first | (simp; done) | (simp; omega) | omega) _)) hb; have c0 := o0.cell; have f0 := o0.fro; have l0 := o0.lt; have hr1 : TRow w1 w.heap.size (.slice (some ⟨g, 0, none⟩) tc tc) st := Row.keep (by with_reducible (repeat' first | assumption | refine Row.drew ?_ | refine Row.past ?_ _)) hb) | (go_at_call 21; refine (HT.out _).mono ?_; rintro e w1 ⟨rfl, hb⟩; have hB1 : Below w.heap.size w w1 := bup (by with_reducible (repeat' first | assumption | exact Below.refl _ _ | refine Below.drew ?_ | refine bdrewN ?_ _ | refine Below.setCell ?_ (by first | exact Nat.le_refl _ | (simp; done) | (simp; omega) | omega) _ | refine Below.alloc ?_ (by first | exact Nat.le_refl _ | (simp; done) | (simp; omega) | omega) _)) hb; have o0 : Own w1 (wr.heap.size) #[.int .i64 nd.kind, .int .i64 nd.tag, .int .i64 nd.num, .string nd.str, .bool nd.is, .int .i64 nd.code, .int .i64 nd.row, .int .i64 nd.col, .int .i64 nd.top, .int .i64 nd.left, .int .i64 nd.bot, .int .i64 nd.right, .int .i64 nd.op, .string nd.name, .int .i64 nd.args] := Own.keep (by with_reducible (repeat' first | assumption | refine Own.drew ?_ | refine Own.drewN ?_ _ | (refine Own.at ?_; first | rfl | (simp; done)) | refine Own.past ?_ _ | refine Own.aside ?_ (by first | (simp; done) | (simp; omega) | omega) _)) hb; have c0 := o0.cell; have f0 := o0.fro; have l0 := o0.lt; have hr1 : TRow w1 w.heap.size (.slice (some ⟨g, 0, none⟩) tc tc) st := Row.keep (by with_reducible (repeat' first | assumption | refine Row.drew ?_ | refine Row.past ?_ _)) hb))
              go_region_held3 (fun w' => w'.cell? ⟨wr.heap.size, 0, none⟩ = some (.int .i64 nd.kind) ∧ w'.cell? ⟨wr.heap.size, 1, none⟩ = some (.int .i64 nd.tag) ∧ w'.cell? ⟨wr.heap.size, 2, none⟩ = some (.int .i64 nd.num) ∧ w'.cell? ⟨wr.heap.size, 3, none⟩ = some (.string nd.str) ∧ w'.cell? ⟨wr.heap.size, 4, none⟩ = some (.bool nd.is) ∧ w'.cell? ⟨wr.heap.size, 5, none⟩ = some (.int .i64 nd.code) ∧ w'.cell? ⟨wr.heap.size, 6, none⟩ = some (.int .i64 nd.row) ∧ w'.cell? ⟨wr.heap.size, 7, none⟩ = some (.int .i64 nd.col) ∧ w'.cell? ⟨wr.heap.size, 8, none⟩ = some (.int .i64 nd.top) ∧ w'.cell? ⟨wr.heap.size, 9, none⟩ = some (.int .i64 nd.left) ∧ w'.cell? ⟨wr.heap.size, 10, none⟩ = some (.int .i64 nd.bot) ∧ w'.cell? ⟨wr.heap.size, 11, none⟩ = some (.int .i64 nd.right) ∧ w'.cell? ⟨wr.heap.size, 12, none⟩ = some (.int .i64 nd.op) ∧ w'.cell? ⟨wr.heap.size, 13, none⟩ = some (.string nd.name) ∧ w'.cell? ⟨wr.heap.size, 14, none⟩ = some (.int .i64 nd.args)) (first | with_reducible assumption | ((repeat' apply And.intro) <;> (first | (go_keep; done) | (go_simp; done)))) ((go_at_call 22; refine Calls.mono (work_nilR (show st.drop tc = [] from List.drop_of_length_le (by have := HLEN.out; omega)) nd _ _ _) ?_; rw [HK.out]; dsimp only [thOut, Th.cells]; rintro e w4 ⟨rfl, hb4⟩; have hB4 : Below w.heap.size w w4 := bup (by with_reducible (repeat' first | assumption | exact Below.refl _ _ | refine Below.drew ?_ | refine bdrewN ?_ _ | refine Below.setCell ?_ (by first | exact Nat.le_refl _ | (simp; done) | (simp; omega) | omega) _ | refine Below.alloc ?_ (by first | exact Nat.le_refl _ | (simp; done) | (simp; omega) | omega) _)) hb4; have o4 : Own w4 (wr.heap.size) #[.int .i64 nd.kind, .int .i64 nd.tag, .int .i64 nd.num, .string nd.str, .bool nd.is, .int .i64 nd.code, .int .i64 nd.row, .int .i64 nd.col, .int .i64 nd.top, .int .i64 nd.left, .int .i64 nd.bot, .int .i64 nd.right, .int .i64 nd.op, .string nd.name, .int .i64 nd.args] := Own.keep (by with_reducible (repeat' first | assumption | refine Own.drew ?_ | refine Own.drewN ?_ _ | (refine Own.at ?_; first | rfl | (simp; done)) | refine Own.past ?_ _ | refine Own.aside ?_ (by first | (simp; done) | (simp; omega) | omega) _)) hb4; have c4 := o4.cell; have l4 := o4.lt; have hr4 : TRow w4 w.heap.size (.slice (some ⟨g, 0, none⟩) tc tc) st := Row.keep (by with_reducible (repeat' first | assumption | refine Row.drew ?_ | refine Row.past ?_ _)) hb4; try (refine with_fact (p := Own w4 (w1.heap.size) #[.bool false, .int .i64 0, .int .i64 0]) ?_ ?_; (· (refine Own.keep ?_ hb4; with_reducible (repeat' first | assumption | refine Own.drew ?_ | refine Own.drewN ?_ _ | (refine Own.at ?_; first | rfl | (simp; done)) | refine Own.past ?_ _ | refine Own.aside ?_ (by first | (simp; done) | (simp; omega) | omega) _); done)); intro o5; have c5 := o5.cell; have l5 := o5.lt; have f5 := o5.fro)))
              · obtain ⟨w6, h6⟩ : ∃ w6, w4.alloc (.cells #[.bool t.many, .int .i64 t.lev, .int .i64 t.dep] 64) = w6 := ⟨_, rfl⟩
                obtain ⟨L, hL⟩ : ∃ L, w4.heap.size = L := ⟨_, rfl⟩
                have o6 : Own w6 L #[.bool t.many, .int .i64 t.lev, .int .i64 t.dep] := by rw [← h6, ← hL]; exact Own.new _ _ _
                have hr6 : TRow w6 w.heap.size (.slice (some ⟨g, 0, none⟩) tc tc) st := by rw [← h6]; exact Row.past hr4 _
                have hB6 : Below w.heap.size w w6 := by rw [← h6]; exact hB4.alloc hB4.size _
                have hgL : ∀ g', ((.slice (some ⟨g, 0, none⟩) tc tc) : Value).ownBlock = some g' → g' ≠ L := by intro g' hg'; have hq := (Row.lt hr4 g' (by simpa [Value.ownBlock] using hg')).2; omega
                rw [h6, hL]
                clear h6 hL
                have hz6 := hB6.size
                have c6 := o6.cell
                have f6 := o6.fro
                have l6 := o6.lt
                go_wp2_with fail
                have hr5 := Row.takeR Th.cells_size hr6 (k := tc) (by have := HLEN.out; omega)
                go_region_held3 (fun w' => w'.cell? ⟨L, 0, none⟩ = some (.bool t.many) ∧ w'.cell? ⟨L, 1, none⟩ = some (.int .i64 t.lev) ∧ w'.cell? ⟨L, 2, none⟩ = some (.int .i64 t.dep)) (first | with_reducible assumption | ((repeat' apply And.intro) <;> (first | (go_keep; done) | (go_simp; done)))) ((refine step_append_lies _ (by rfl) _ _ _ (by rfl) w.heap.size 64 i0 _ 3 24 Tryd.underlying60 HI.out HZ0.out HZ1.out HZ2.out rfl (by decide) (.slice (some ⟨g, 0, none⟩) tc tc) tc (flatC Th.cells (st.take tc)) (by rfl) (by with_reducible (repeat' first | assumption | refine ownsRow_drew ?_ | refine World.ownsRow.alloc ?_ _)) ⟨w6.heap.size, 0, none⟩ 1 1 t.cells.toList (by rfl) (by rfl) (news_one w6 t.cells _) t.one (by decide) (by unfold maxLen; omega) (by omega) (by have := hB6.size; simp; omega) (w6.heap.size + 1) (by simp) ?_; intro g5 cap5 w5 hown5 hgrow5 hat5 hlt5; have o7 : Own w5 L #[.bool t.many, .int .i64 t.lev, .int .i64 t.dep] := own_grown (by with_reducible (repeat' first | assumption | refine Own.drew ?_ | refine Own.drewN ?_ _ | (refine Own.at ?_; first | rfl | (simp; done)) | refine Own.past ?_ _ | refine Own.aside ?_ (by first | (simp; done) | (simp; omega) | omega) _)) hgrow5 hgL; have c7 := o7.cell))
                go_wp2
                have hfin := app_row (c := Th.cells) (w := w) (l := (st.take tc)) (t := t) (by with_reducible (repeat' first | assumption | exact Below.refl _ _ | refine Below.drew ?_ | refine bdrewN ?_ _ | refine Below.setCell ?_ (by first | exact Nat.le_refl _ | (simp; done) | (simp; omega) | omega) _ | refine Below.alloc ?_ (by first | exact Nat.le_refl _ | (simp; done) | (simp; omega) | omega) _)) (fun g' hg' => (Row.lt hr6 g' (by simpa [Value.ownBlock] using hg')).1) HLT.out hown5 hgrow5
                go_roundw
                case rel => exact ⟨i + 1, (st.take tc) ++ [t], by go_num, by omega, HP2, hfin.1, hfin.2, by have := HLT.out; (simp <;> omega), HD2⟩
                case measure => simp [intOf]; omega
              · obtain ⟨w6, h6⟩ : ∃ w6, ((w4.setCell ⟨w1.heap.size, 0, none⟩ (.bool t.many)).setCell ⟨w1.heap.size, 1, none⟩ (.int .i64 t.lev)).setCell ⟨w1.heap.size, 2, none⟩ (.int .i64 t.dep) = w6 := ⟨_, rfl⟩
                have hz1 := hB1.size
                have hgL : ∀ g', ((.slice (some ⟨g, 0, none⟩) tc tc) : Value).ownBlock = some g' → g' ≠ w1.heap.size := by intro g' hg'; have hq := (Row.lt hr1 g' (by simpa [Value.ownBlock] using hg')).2; omega
                have hgL2 : ∀ g', ((.slice (some ⟨g, 0, none⟩) tc tc) : Value).ownBlock = some g' → g' ≠ w1.heap.size := by intro g' hg'; have hq := (Row.lt hr1 g' hg').2; omega
                have o6 : Own w6 w1.heap.size #[.bool t.many, .int .i64 t.lev, .int .i64 t.dep] := by rw [← h6]; exact own_put3 o5
                have hr6 : TRow w6 w.heap.size (.slice (some ⟨g, 0, none⟩) tc tc) st := by rw [← h6]; exact Row.aside (Row.aside (Row.aside hr4 _ hgL2) _ hgL2) _ hgL2
                have hB6 : Below w.heap.size w w6 := by rw [← h6]; with_reducible (repeat' first | assumption | exact Below.refl _ _ | refine Below.drew ?_ | refine bdrewN ?_ _ | refine Below.setCell ?_ (by first | exact Nat.le_refl _ | (simp; done) | (simp; omega) | omega) _ | refine Below.alloc ?_ (by first | exact Nat.le_refl _ | (simp; done) | (simp; omega) | omega) _)
                obtain ⟨L, hL⟩ : ∃ L, w1.heap.size = L := ⟨_, rfl⟩
                rw [h6, hL]
                rw [hL] at o6 hgL
                clear h6 hL hgL2
                have hz6 := hB6.size
                have c6 := o6.cell
                have f6 := o6.fro
                have l6 := o6.lt
                go_wp2_with fail
                have hr5 := Row.takeR Th.cells_size hr6 (k := tc) (by have := HLEN.out; omega)
                go_region_held3 (fun w' => w'.cell? ⟨L, 0, none⟩ = some (.bool t.many) ∧ w'.cell? ⟨L, 1, none⟩ = some (.int .i64 t.lev) ∧ w'.cell? ⟨L, 2, none⟩ = some (.int .i64 t.dep)) (first | with_reducible assumption | ((repeat' apply And.intro) <;> (first | (go_keep; done) | (go_simp; done)))) ((refine step_append_lies _ (by rfl) _ _ _ (by rfl) w.heap.size 64 i0 _ 3 24 Tryd.underlying60 HI.out HZ0.out HZ1.out HZ2.out rfl (by decide) (.slice (some ⟨g, 0, none⟩) tc tc) tc (flatC Th.cells (st.take tc)) (by rfl) (by with_reducible (repeat' first | assumption | refine ownsRow_drew ?_ | refine World.ownsRow.alloc ?_ _)) ⟨w6.heap.size, 0, none⟩ 1 1 t.cells.toList (by rfl) (by rfl) (news_one w6 t.cells _) t.one (by decide) (by unfold maxLen; omega) (by omega) (by have := hB6.size; simp; omega) (w6.heap.size + 1) (by simp) ?_; intro g5 cap5 w5 hown5 hgrow5 hat5 hlt5; have o7 : Own w5 L #[.bool t.many, .int .i64 t.lev, .int .i64 t.dep] := own_grown (by with_reducible (repeat' first | assumption | refine Own.drew ?_ | refine Own.drewN ?_ _ | (refine Own.at ?_; first | rfl | (simp; done)) | refine Own.past ?_ _ | refine Own.aside ?_ (by first | (simp; done) | (simp; omega) | omega) _)) hgrow5 hgL; have c7 := o7.cell))
                go_wp2
                have hfin := app_row (c := Th.cells) (w := w) (l := (st.take tc)) (t := t) (by with_reducible (repeat' first | assumption | exact Below.refl _ _ | refine Below.drew ?_ | refine bdrewN ?_ _ | refine Below.setCell ?_ (by first | exact Nat.le_refl _ | (simp; done) | (simp; omega) | omega) _ | refine Below.alloc ?_ (by first | exact Nat.le_refl _ | (simp; done) | (simp; omega) | omega) _)) (fun g' hg' => (Row.lt hr6 g' (by simpa [Value.ownBlock] using hg')).1) HLT.out hown5 hgrow5
                go_roundw
                case rel => exact ⟨i + 1, (st.take tc) ++ [t], by go_num, by omega, HP2, hfin.1, hfin.2, by have := HLT.out; (simp <;> omega), HD2⟩
                case measure => simp [intOf]; omega
          · skip
            as_aux_lemma =>
              obtain ⟨t, ht⟩ : ∃ t, workN nd [] = some t := ⟨_, by simp [workN]; rfl⟩
              have HK : Hid (workN nd (st.drop r) = some t) := by show _ = _; rw [List.drop_of_length_le (by omega)]; exact ht
              clear ht
              have hstep := step_some HMY.out.1 HMY.out.2.1 (HR.out.symm ▸ HK.out)
              rw [HR.out] at hstep
              have HP2 : Hid (putFrom ((st.take r) ++ [t]) (ns.drop (i + 1)) = putFrom [] ns) := by show _ = _; rw [← hput.out, putFrom_yes HTI.out hstep]
              have HD2 : Hid (∀ x ∈ (st.take r) ++ [t], x.dep ≤ i + 1) := step_dep hstep hdep.out
              have HLT : Hid (((st.take r)).length = r) := by show _ = _; simp; try omega
              clear hstep
              go_wp2_with (first | (go_at_call 20; refine (HM.out _).mono ?_; rintro e w1 ⟨rfl, hb⟩; have hB1 : Below w.heap.size w w1 := bup (by with_reducible (repeat' first | assumption | exact Below.refl _ _ | refine Below.drew ?_ | refine bdrewN ?_ _ | refine Below.setCell ?_ (by first | exact Nat.le_refl _ | (simp; done) | (simp; omega) | omega) _ | refine Below.alloc ?_ (by first | exact Nat.le_refl _ | (simp; done) | (simp; omega) | omega) _)) hb; have o0 : Own w1 (wr.heap.size) #[.int .i64 nd.kind, .int .i64 nd.tag, .int .i64 nd.num, .string nd.str, .bool nd.is, .int .i64 nd.code, .int .i64 nd.row, .int .i64 nd.col, .int .i64 nd.top, .int .i64 nd.left, .int .i64 nd.bot, .int .i64 nd.right, .int .i64 nd.op, .string nd.name, .int .i64 nd.args] := Own.keep (by with_reducible (repeat' first | assumption | refine Own.drew ?_ | refine Own.drewN ?_ _ | (refine Own.at ?_; first | rfl | (simp; done)) | refine Own.past ?_ _ | refine Own.aside ?_ (by first | (simp; done) | (simp; omega) | omega) _)) hb; have c0 := o0.cell; have f0 := o0.fro; have l0 := o0.lt; have hr1 : TRow w1 w.heap.size (.slice (some ⟨g, 0, none⟩) r tc) st := Row.keep (by with_reducible (repeat' first | assumption | refine Row.drew ?_ | refine Row.past ?_ _)) hb) | (go_at_call 21; refine (HT.out _).mono ?_; rintro e w1 ⟨rfl, hb⟩; have hB1 : Below w.heap.size w w1 := bup (by with_reducible (repeat' first | assumption | exact Below.refl _ _ | refine Below.drew ?_ | refine bdrewN ?_ _ | refine Below.setCell ?_ (by first | exact Nat.le_refl _ | (simp; done) | (simp; omega) | omega) _ | refine Below.alloc ?_ (by first | exact Nat.le_refl _ | (simp; done) | (simp; omega) | omega) _)) hb; have o0 : Own w1 (wr.heap.size) #[.int .i64 nd.kind, .int .i64 nd.tag, .int .i64 nd.num, .string nd.str, .bool nd.is, .int .i64 nd.code, .int .i64 nd.row, .int .i64 nd.col, .int .i64 nd.top, .int .i64 nd.left, .int .i64 nd.bot, .int .i64 nd.right, .int .i64 nd.op, .string nd.name, .int .i64 nd.args] := Own.keep (by with_reducible (repeat' first | assumption | refine Own.drew ?_ | refine Own.drewN ?_ _ | (refine Own.at ?_; first | rfl | (simp; done)) | refine Own.past ?_ _ | refine Own.aside ?_ (by first | (simp; done) | (simp; omega) | omega) _)) hb; have c0 := o0.cell; have f0 := o0.fro; have l0 := o0.lt; have hr1 : TRow w1 w.heap.size (.slice (some ⟨g, 0, none⟩) r tc) st := Row.keep (by with_reducible (repeat' first | assumption | refine Row.drew ?_ | refine Row.past ?_ _)) hb))
              go_region_held3 (fun w' => w'.cell? ⟨wr.heap.size, 0, none⟩ = some (.int .i64 nd.kind) ∧ w'.cell? ⟨wr.heap.size, 1, none⟩ = some (.int .i64 nd.tag) ∧ w'.cell? ⟨wr.heap.size, 2, none⟩ = some (.int .i64 nd.num) ∧ w'.cell? ⟨wr.heap.size, 3, none⟩ = some (.string nd.str) ∧ w'.cell? ⟨wr.heap.size, 4, none⟩ = some (.bool nd.is) ∧ w'.cell? ⟨wr.heap.size, 5, none⟩ = some (.int .i64 nd.code) ∧ w'.cell? ⟨wr.heap.size, 6, none⟩ = some (.int .i64 nd.row) ∧ w'.cell? ⟨wr.heap.size, 7, none⟩ = some (.int .i64 nd.col) ∧ w'.cell? ⟨wr.heap.size, 8, none⟩ = some (.int .i64 nd.top) ∧ w'.cell? ⟨wr.heap.size, 9, none⟩ = some (.int .i64 nd.left) ∧ w'.cell? ⟨wr.heap.size, 10, none⟩ = some (.int .i64 nd.bot) ∧ w'.cell? ⟨wr.heap.size, 11, none⟩ = some (.int .i64 nd.right) ∧ w'.cell? ⟨wr.heap.size, 12, none⟩ = some (.int .i64 nd.op) ∧ w'.cell? ⟨wr.heap.size, 13, none⟩ = some (.string nd.name) ∧ w'.cell? ⟨wr.heap.size, 14, none⟩ = some (.int .i64 nd.args)) (first | with_reducible assumption | ((repeat' apply And.intro) <;> (first | (go_keep; done) | (go_simp; done)))) ((go_at_call 22; refine Calls.mono (work_nilR (show st.drop r = [] from List.drop_of_length_le (by have := HLEN.out; omega)) nd _ _ _) ?_; rw [HK.out]; dsimp only [thOut, Th.cells]; rintro e w4 ⟨rfl, hb4⟩; have hB4 : Below w.heap.size w w4 := bup (by with_reducible (repeat' first | assumption | exact Below.refl _ _ | refine Below.drew ?_ | refine bdrewN ?_ _ | refine Below.setCell ?_ (by first | exact Nat.le_refl _ | (simp; done) | (simp; omega) | omega) _ | refine Below.alloc ?_ (by first | exact Nat.le_refl _ | (simp; done) | (simp; omega) | omega) _)) hb4; have o4 : Own w4 (wr.heap.size) #[.int .i64 nd.kind, .int .i64 nd.tag, .int .i64 nd.num, .string nd.str, .bool nd.is, .int .i64 nd.code, .int .i64 nd.row, .int .i64 nd.col, .int .i64 nd.top, .int .i64 nd.left, .int .i64 nd.bot, .int .i64 nd.right, .int .i64 nd.op, .string nd.name, .int .i64 nd.args] := Own.keep (by with_reducible (repeat' first | assumption | refine Own.drew ?_ | refine Own.drewN ?_ _ | (refine Own.at ?_; first | rfl | (simp; done)) | refine Own.past ?_ _ | refine Own.aside ?_ (by first | (simp; done) | (simp; omega) | omega) _)) hb4; have c4 := o4.cell; have l4 := o4.lt; have hr4 : TRow w4 w.heap.size (.slice (some ⟨g, 0, none⟩) r tc) st := Row.keep (by with_reducible (repeat' first | assumption | refine Row.drew ?_ | refine Row.past ?_ _)) hb4; try (refine with_fact (p := Own w4 (w1.heap.size) #[.bool false, .int .i64 0, .int .i64 0]) ?_ ?_; (· (refine Own.keep ?_ hb4; with_reducible (repeat' first | assumption | refine Own.drew ?_ | refine Own.drewN ?_ _ | (refine Own.at ?_; first | rfl | (simp; done)) | refine Own.past ?_ _ | refine Own.aside ?_ (by first | (simp; done) | (simp; omega) | omega) _); done)); intro o5; have c5 := o5.cell; have l5 := o5.lt; have f5 := o5.fro)))
              · obtain ⟨w6, h6⟩ : ∃ w6, w4.alloc (.cells #[.bool t.many, .int .i64 t.lev, .int .i64 t.dep] 64) = w6 := ⟨_, rfl⟩
                obtain ⟨L, hL⟩ : ∃ L, w4.heap.size = L := ⟨_, rfl⟩
                have o6 : Own w6 L #[.bool t.many, .int .i64 t.lev, .int .i64 t.dep] := by rw [← h6, ← hL]; exact Own.new _ _ _
                have hr6 : TRow w6 w.heap.size (.slice (some ⟨g, 0, none⟩) r tc) st := by rw [← h6]; exact Row.past hr4 _
                have hB6 : Below w.heap.size w w6 := by rw [← h6]; exact hB4.alloc hB4.size _
                have hgL : ∀ g', ((.slice (some ⟨g, 0, none⟩) r tc) : Value).ownBlock = some g' → g' ≠ L := by intro g' hg'; have hq := (Row.lt hr4 g' (by simpa [Value.ownBlock] using hg')).2; omega
                rw [h6, hL]
                clear h6 hL
                have hz6 := hB6.size
                have c6 := o6.cell
                have f6 := o6.fro
                have l6 := o6.lt
                go_wp2_with fail
                have hr5 := Row.takeR Th.cells_size hr6 (k := r) (by have := HLEN.out; omega)
                go_region_held3 (fun w' => w'.cell? ⟨L, 0, none⟩ = some (.bool t.many) ∧ w'.cell? ⟨L, 1, none⟩ = some (.int .i64 t.lev) ∧ w'.cell? ⟨L, 2, none⟩ = some (.int .i64 t.dep)) (first | with_reducible assumption | ((repeat' apply And.intro) <;> (first | (go_keep; done) | (go_simp; done)))) ((refine step_append_lies _ (by rfl) _ _ _ (by rfl) w.heap.size 64 i0 _ 3 24 Tryd.underlying60 HI.out HZ0.out HZ1.out HZ2.out rfl (by decide) (.slice (some ⟨g, 0, none⟩) r tc) r (flatC Th.cells (st.take r)) (by rfl) (by with_reducible (repeat' first | assumption | refine ownsRow_drew ?_ | refine World.ownsRow.alloc ?_ _)) ⟨w6.heap.size, 0, none⟩ 1 1 t.cells.toList (by rfl) (by rfl) (news_one w6 t.cells _) t.one (by decide) (by unfold maxLen; omega) (by omega) (by have := hB6.size; simp; omega) (w6.heap.size + 1) (by simp) ?_; intro g5 cap5 w5 hown5 hgrow5 hat5 hlt5; have o7 : Own w5 L #[.bool t.many, .int .i64 t.lev, .int .i64 t.dep] := own_grown (by with_reducible (repeat' first | assumption | refine Own.drew ?_ | refine Own.drewN ?_ _ | (refine Own.at ?_; first | rfl | (simp; done)) | refine Own.past ?_ _ | refine Own.aside ?_ (by first | (simp; done) | (simp; omega) | omega) _)) hgrow5 hgL; have c7 := o7.cell))
                go_wp2
                have hfin := app_row (c := Th.cells) (w := w) (l := (st.take r)) (t := t) (by with_reducible (repeat' first | assumption | exact Below.refl _ _ | refine Below.drew ?_ | refine bdrewN ?_ _ | refine Below.setCell ?_ (by first | exact Nat.le_refl _ | (simp; done) | (simp; omega) | omega) _ | refine Below.alloc ?_ (by first | exact Nat.le_refl _ | (simp; done) | (simp; omega) | omega) _)) (fun g' hg' => (Row.lt hr6 g' (by simpa [Value.ownBlock] using hg')).1) HLT.out hown5 hgrow5
                go_roundw
                case rel => exact ⟨i + 1, (st.take r) ++ [t], by go_num, by omega, HP2, hfin.1, hfin.2, by have := HLT.out; (simp <;> omega), HD2⟩
                case measure => simp [intOf]; omega
              · obtain ⟨w6, h6⟩ : ∃ w6, ((w4.setCell ⟨w1.heap.size, 0, none⟩ (.bool t.many)).setCell ⟨w1.heap.size, 1, none⟩ (.int .i64 t.lev)).setCell ⟨w1.heap.size, 2, none⟩ (.int .i64 t.dep) = w6 := ⟨_, rfl⟩
                have hz1 := hB1.size
                have hgL : ∀ g', ((.slice (some ⟨g, 0, none⟩) r tc) : Value).ownBlock = some g' → g' ≠ w1.heap.size := by intro g' hg'; have hq := (Row.lt hr1 g' (by simpa [Value.ownBlock] using hg')).2; omega
                have hgL2 : ∀ g', ((.slice (some ⟨g, 0, none⟩) r tc) : Value).ownBlock = some g' → g' ≠ w1.heap.size := by intro g' hg'; have hq := (Row.lt hr1 g' hg').2; omega
                have o6 : Own w6 w1.heap.size #[.bool t.many, .int .i64 t.lev, .int .i64 t.dep] := by rw [← h6]; exact own_put3 o5
                have hr6 : TRow w6 w.heap.size (.slice (some ⟨g, 0, none⟩) r tc) st := by rw [← h6]; exact Row.aside (Row.aside (Row.aside hr4 _ hgL2) _ hgL2) _ hgL2
                have hB6 : Below w.heap.size w w6 := by rw [← h6]; with_reducible (repeat' first | assumption | exact Below.refl _ _ | refine Below.drew ?_ | refine bdrewN ?_ _ | refine Below.setCell ?_ (by first | exact Nat.le_refl _ | (simp; done) | (simp; omega) | omega) _ | refine Below.alloc ?_ (by first | exact Nat.le_refl _ | (simp; done) | (simp; omega) | omega) _)
                obtain ⟨L, hL⟩ : ∃ L, w1.heap.size = L := ⟨_, rfl⟩
                rw [h6, hL]
                rw [hL] at o6 hgL
                clear h6 hL hgL2
                have hz6 := hB6.size
                have c6 := o6.cell
                have f6 := o6.fro
                have l6 := o6.lt
                go_wp2_with fail
                have hr5 := Row.takeR Th.cells_size hr6 (k := r) (by have := HLEN.out; omega)
                go_region_held3 (fun w' => w'.cell? ⟨L, 0, none⟩ = some (.bool t.many) ∧ w'.cell? ⟨L, 1, none⟩ = some (.int .i64 t.lev) ∧ w'.cell? ⟨L, 2, none⟩ = some (.int .i64 t.dep)) (first | with_reducible assumption | ((repeat' apply And.intro) <;> (first | (go_keep; done) | (go_simp; done)))) ((refine step_append_lies _ (by rfl) _ _ _ (by rfl) w.heap.size 64 i0 _ 3 24 Tryd.underlying60 HI.out HZ0.out HZ1.out HZ2.out rfl (by decide) (.slice (some ⟨g, 0, none⟩) r tc) r (flatC Th.cells (st.take r)) (by rfl) (by with_reducible (repeat' first | assumption | refine ownsRow_drew ?_ | refine World.ownsRow.alloc ?_ _)) ⟨w6.heap.size, 0, none⟩ 1 1 t.cells.toList (by rfl) (by rfl) (news_one w6 t.cells _) t.one (by decide) (by unfold maxLen; omega) (by omega) (by have := hB6.size; simp; omega) (w6.heap.size + 1) (by simp) ?_; intro g5 cap5 w5 hown5 hgrow5 hat5 hlt5; have o7 : Own w5 L #[.bool t.many, .int .i64 t.lev, .int .i64 t.dep] := own_grown (by with_reducible (repeat' first | assumption | refine Own.drew ?_ | refine Own.drewN ?_ _ | (refine Own.at ?_; first | rfl | (simp; done)) | refine Own.past ?_ _ | refine Own.aside ?_ (by first | (simp; done) | (simp; omega) | omega) _)) hgrow5 hgL; have c7 := o7.cell))
                go_wp2
                have hfin := app_row (c := Th.cells) (w := w) (l := (st.take r)) (t := t) (by with_reducible (repeat' first | assumption | exact Below.refl _ _ | refine Below.drew ?_ | refine bdrewN ?_ _ | refine Below.setCell ?_ (by first | exact Nat.le_refl _ | (simp; done) | (simp; omega) | omega) _ | refine Below.alloc ?_ (by first | exact Nat.le_refl _ | (simp; done) | (simp; omega) | omega) _)) (fun g' hg' => (Row.lt hr6 g' (by simpa [Value.ownBlock] using hg')).1) HLT.out hown5 hgrow5
                go_roundw
                case rel => exact ⟨i + 1, (st.take r) ++ [t], by go_num, by omega, HP2, hfin.1, hfin.2, by have := HLT.out; (simp <;> omega), HD2⟩
                case measure => simp [intOf]; omega
        · have hrk' : (r : Int) ≤ (r : Int) + (k : Int) := by omega
          have hrc' : (r : Int) + (k : Int) ≤ (tc : Int) := by omega
          have hrc2 : (r : Int) ≤ (tc : Int) := by omega
          have hne : ¬ tc = r := by omega
          cases hwk : workN nd (st.drop r) with
          | none =>
            as_aux_lemma =>
              have HKK : Hid (nd.kind = 4 ∨ nd.kind = 5) := by
                show _ ∨ _
                have := HMA.out.2.2.1
                by_cases a : nd.kind = 4
                · exact .inl a
                by_cases b : nd.kind = 5
                · exact .inr b
                have := this a b
                omega
              have HK : Hid (workN nd (st.drop r) = none) := hwk
              have HW : Hid (measN ns = none) := by show _ = _; rw [HME.out, ← hput.out, putFrom_no HTI.out (step_none (by rw [HR.out]; exact HK.out))]; rfl
              clear hwk
              go_wp2_with (first | (go_at_call 20; refine (HM.out _).mono ?_; rintro e w1 ⟨rfl, hb⟩; have hB1 : Below w.heap.size w w1 := bup (by with_reducible (repeat' first | assumption | exact Below.refl _ _ | refine Below.drew ?_ | refine bdrewN ?_ _ | refine Below.setCell ?_ (by first | exact Nat.le_refl _ | (simp; done) | (simp; omega) | omega) _ | refine Below.alloc ?_ (by first | exact Nat.le_refl _ | (simp; done) | (simp; omega) | omega) _)) hb; have o0 : Own w1 (wr.heap.size) #[.int .i64 nd.kind, .int .i64 nd.tag, .int .i64 nd.num, .string nd.str, .bool nd.is, .int .i64 nd.code, .int .i64 nd.row, .int .i64 nd.col, .int .i64 nd.top, .int .i64 nd.left, .int .i64 nd.bot, .int .i64 nd.right, .int .i64 nd.op, .string nd.name, .int .i64 nd.args] := Own.keep (by with_reducible (repeat' first | assumption | refine Own.drew ?_ | refine Own.drewN ?_ _ | (refine Own.at ?_; first | rfl | (simp; done)) | refine Own.past ?_ _ | refine Own.aside ?_ (by first | (simp; done) | (simp; omega) | omega) _)) hb; have c0 := o0.cell; have f0 := o0.fro; have l0 := o0.lt; have hr1 : TRow w1 w.heap.size (.slice (some ⟨g, 0, none⟩) (r + k) tc) st := Row.keep (by with_reducible (repeat' first | assumption | refine Row.drew ?_ | refine Row.past ?_ _)) hb) | (go_at_call 21; refine (HT.out _).mono ?_; rintro e w1 ⟨rfl, hb⟩; have hB1 : Below w.heap.size w w1 := bup (by with_reducible (repeat' first | assumption | exact Below.refl _ _ | refine Below.drew ?_ | refine bdrewN ?_ _ | refine Below.setCell ?_ (by first | exact Nat.le_refl _ | (simp; done) | (simp; omega) | omega) _ | refine Below.alloc ?_ (by first | exact Nat.le_refl _ | (simp; done) | (simp; omega) | omega) _)) hb; have o0 : Own w1 (wr.heap.size) #[.int .i64 nd.kind, .int .i64 nd.tag, .int .i64 nd.num, .string nd.str, .bool nd.is, .int .i64 nd.code, .int .i64 nd.row, .int .i64 nd.col, .int .i64 nd.top, .int .i64 nd.left, .int .i64 nd.bot, .int .i64 nd.right, .int .i64 nd.op, .string nd.name, .int .i64 nd.args] := Own.keep (by with_reducible (repeat' first | assumption | refine Own.drew ?_ | refine Own.drewN ?_ _ | (refine Own.at ?_; first | rfl | (simp; done)) | refine Own.past ?_ _ | refine Own.aside ?_ (by first | (simp; done) | (simp; omega) | omega) _)) hb; have c0 := o0.cell; have f0 := o0.fro; have l0 := o0.lt; have hr1 : TRow w1 w.heap.size (.slice (some ⟨g, 0, none⟩) (r + k) tc) st := Row.keep (by with_reducible (repeat' first | assumption | refine Row.drew ?_ | refine Row.past ?_ _)) hb))
              go_region_held3 (fun w' => w'.cell? ⟨wr.heap.size, 0, none⟩ = some (.int .i64 nd.kind) ∧ w'.cell? ⟨wr.heap.size, 1, none⟩ = some (.int .i64 nd.tag) ∧ w'.cell? ⟨wr.heap.size, 2, none⟩ = some (.int .i64 nd.num) ∧ w'.cell? ⟨wr.heap.size, 3, none⟩ = some (.string nd.str) ∧ w'.cell? ⟨wr.heap.size, 4, none⟩ = some (.bool nd.is) ∧ w'.cell? ⟨wr.heap.size, 5, none⟩ = some (.int .i64 nd.code) ∧ w'.cell? ⟨wr.heap.size, 6, none⟩ = some (.int .i64 nd.row) ∧ w'.cell? ⟨wr.heap.size, 7, none⟩ = some (.int .i64 nd.col) ∧ w'.cell? ⟨wr.heap.size, 8, none⟩ = some (.int .i64 nd.top) ∧ w'.cell? ⟨wr.heap.size, 9, none⟩ = some (.int .i64 nd.left) ∧ w'.cell? ⟨wr.heap.size, 10, none⟩ = some (.int .i64 nd.bot) ∧ w'.cell? ⟨wr.heap.size, 11, none⟩ = some (.int .i64 nd.right) ∧ w'.cell? ⟨wr.heap.size, 12, none⟩ = some (.int .i64 nd.op) ∧ w'.cell? ⟨wr.heap.size, 13, none⟩ = some (.string nd.name) ∧ w'.cell? ⟨wr.heap.size, 14, none⟩ = some (.int .i64 nd.args)) (first | with_reducible assumption | ((repeat' apply And.intro) <;> (first | (go_keep; done) | (go_simp; done)))) ((go_at_call 22; refine Calls.mono (work_at nd _ _ _ _ (st.drop r) _ (Row.lt (e := 64) (l := st) (c := Th.cells) (sz := 3) (base := w.heap.size) (v := .slice (some ⟨g, 0, none⟩) (r + k) tc) (by with_reducible (repeat' first | assumption | refine Row.drew ?_ | refine Row.past ?_ _)) g rfl).2 (drop_cells (Row.cells Th.cells_size (e := 64) (base := w.heap.size) (m := r + k) (cap := tc) (l := st) (by with_reducible (repeat' first | assumption | refine Row.drew ?_ | refine Row.past ?_ _)))) (by have := HLEN.out; simp; omega) (by omega) (by omega) (by omega) (fun x hx => by have := hdep.out x (List.mem_of_mem_drop hx); omega) HKK.out) ?_; rw [HK.out]; dsimp only [thOut, Th.cells]; rintro e w4 ⟨rfl, hb4⟩; have hB4 : Below w.heap.size w w4 := bup (by with_reducible (repeat' first | assumption | exact Below.refl _ _ | refine Below.drew ?_ | refine bdrewN ?_ _ | refine Below.setCell ?_ (by first | exact Nat.le_refl _ | (simp; done) | (simp; omega) | omega) _ | refine Below.alloc ?_ (by first | exact Nat.le_refl _ | (simp; done) | (simp; omega) | omega) _)) hb4; have o4 : Own w4 (wr.heap.size) #[.int .i64 nd.kind, .int .i64 nd.tag, .int .i64 nd.num, .string nd.str, .bool nd.is, .int .i64 nd.code, .int .i64 nd.row, .int .i64 nd.col, .int .i64 nd.top, .int .i64 nd.left, .int .i64 nd.bot, .int .i64 nd.right, .int .i64 nd.op, .string nd.name, .int .i64 nd.args] := Own.keep (by with_reducible (repeat' first | assumption | refine Own.drew ?_ | refine Own.drewN ?_ _ | (refine Own.at ?_; first | rfl | (simp; done)) | refine Own.past ?_ _ | refine Own.aside ?_ (by first | (simp; done) | (simp; omega) | omega) _)) hb4; have c4 := o4.cell; have l4 := o4.lt; have hr4 : TRow w4 w.heap.size (.slice (some ⟨g, 0, none⟩) (r + k) tc) st := Row.keep (by with_reducible (repeat' first | assumption | refine Row.drew ?_ | refine Row.past ?_ _)) hb4; try (refine with_fact (p := Own w4 (w1.heap.size) #[.bool false, .int .i64 0, .int .i64 0]) ?_ ?_; (· (refine Own.keep ?_ hb4; with_reducible (repeat' first | assumption | refine Own.drew ?_ | refine Own.drewN ?_ _ | (refine Own.at ?_; first | rfl | (simp; done)) | refine Own.past ?_ _ | refine Own.aside ?_ (by first | (simp; done) | (simp; omega) | omega) _); done)); intro o5; have c5 := o5.cell; have l5 := o5.lt; have f5 := o5.fro)))
              all_goals go_wp2
              all_goals go_ret2
              all_goals exact ⟨by rw [HW.out]; rfl, by first | assumption | (with_reducible (repeat' first | assumption | exact Below.refl _ _ | refine Below.drew ?_ | refine bdrewN ?_ _ | refine Below.setCell ?_ (by first | exact Nat.le_refl _ | (simp; done) | (simp; omega) | omega) _ | refine Below.alloc ?_ (by first | exact Nat.le_refl _ | (simp; done) | (simp; omega) | omega) _))⟩
          | some t =>
            as_aux_lemma =>
              have HKK : Hid (nd.kind = 4 ∨ nd.kind = 5) := by
                show _ ∨ _
                have := HMA.out.2.2.1
                by_cases a : nd.kind = 4
                · exact .inl a
                by_cases b : nd.kind = 5
                · exact .inr b
                have := this a b
                omega
              have HK : Hid (workN nd (st.drop r) = some t) := hwk
              clear hwk
              have hstep := step_some HMY.out.1 HMY.out.2.1 (HR.out.symm ▸ HK.out)
              rw [HR.out] at hstep
              have HP2 : Hid (putFrom ((st.take r) ++ [t]) (ns.drop (i + 1)) = putFrom [] ns) := by show _ = _; rw [← hput.out, putFrom_yes HTI.out hstep]
              have HD2 : Hid (∀ x ∈ (st.take r) ++ [t], x.dep ≤ i + 1) := step_dep hstep hdep.out
              have HLT : Hid (((st.take r)).length = r) := by show _ = _; simp; try omega
              clear hstep
              go_wp2_with (first | (go_at_call 20; refine (HM.out _).mono ?_; rintro e w1 ⟨rfl, hb⟩; have hB1 : Below w.heap.size w w1 := bup (by with_reducible (repeat' first | assumption | exact Below.refl _ _ | refine Below.drew ?_ | refine bdrewN ?_ _ | refine Below.setCell ?_ (by first | exact Nat.le_refl _ | (simp; done) | (simp; omega) | omega) _ | refine Below.alloc ?_ (by first | exact Nat.le_refl _ | (simp; done) | (simp; omega) | omega) _)) hb; have o0 : Own w1 (wr.heap.size) #[.int .i64 nd.kind, .int .i64 nd.tag, .int .i64 nd.num, .string nd.str, .bool nd.is, .int .i64 nd.code, .int .i64 nd.row, .int .i64 nd.col, .int .i64 nd.top, .int .i64 nd.left, .int .i64 nd.bot, .int .i64 nd.right, .int .i64 nd.op, .string nd.name, .int .i64 nd.args] := Own.keep (by with_reducible (repeat' first | assumption | refine Own.drew ?_ | refine Own.drewN ?_ _ | (refine Own.at ?_; first | rfl | (simp; done)) | refine Own.past ?_ _ | refine Own.aside ?_ (by first | (simp; done) | (simp; omega) | omega) _)) hb; have c0 := o0.cell; have f0 := o0.fro; have l0 := o0.lt; have hr1 : TRow w1 w.heap.size (.slice (some ⟨g, 0, none⟩) (r + k) tc) st := Row.keep (by with_reducible (repeat' first | assumption | refine Row.drew ?_ | refine Row.past ?_ _)) hb) | (go_at_call 21; refine (HT.out _).mono ?_; rintro e w1 ⟨rfl, hb⟩; have hB1 : Below w.heap.size w w1 := bup (by with_reducible (repeat' first | assumption | exact Below.refl _ _ | refine Below.drew ?_ | refine bdrewN ?_ _ | refine Below.setCell ?_ (by first | exact Nat.le_refl _ | (simp; done) | (simp; omega) | omega) _ | refine Below.alloc ?_ (by first | exact Nat.le_refl _ | (simp; done) | (simp; omega) | omega) _)) hb; have o0 : Own w1 (wr.heap.size) #[.int .i64 nd.kind, .int .i64 nd.tag, .int .i64 nd.num, .string nd.str, .bool nd.is, .int .i64 nd.code, .int .i64 nd.row, .int .i64 nd.col, .int .i64 nd.top, .int .i64 nd.left, .int .i64 nd.bot, .int .i64 nd.right, .int .i64 nd.op, .string nd.name, .int .i64 nd.args] := Own.keep (by with_reducible (repeat' first | assumption | refine Own.drew ?_ | refine Own.drewN ?_ _ | (refine Own.at ?_; first | rfl | (simp; done)) | refine Own.past ?_ _ | refine Own.aside ?_ (by first | (simp; done) | (simp; omega) | omega) _)) hb; have c0 := o0.cell; have f0 := o0.fro; have l0 := o0.lt; have hr1 : TRow w1 w.heap.size (.slice (some ⟨g, 0, none⟩) (r + k) tc) st := Row.keep (by with_reducible (repeat' first | assumption | refine Row.drew ?_ | refine Row.past ?_ _)) hb))
              go_region_held3 (fun w' => w'.cell? ⟨wr.heap.size, 0, none⟩ = some (.int .i64 nd.kind) ∧ w'.cell? ⟨wr.heap.size, 1, none⟩ = some (.int .i64 nd.tag) ∧ w'.cell? ⟨wr.heap.size, 2, none⟩ = some (.int .i64 nd.num) ∧ w'.cell? ⟨wr.heap.size, 3, none⟩ = some (.string nd.str) ∧ w'.cell? ⟨wr.heap.size, 4, none⟩ = some (.bool nd.is) ∧ w'.cell? ⟨wr.heap.size, 5, none⟩ = some (.int .i64 nd.code) ∧ w'.cell? ⟨wr.heap.size, 6, none⟩ = some (.int .i64 nd.row) ∧ w'.cell? ⟨wr.heap.size, 7, none⟩ = some (.int .i64 nd.col) ∧ w'.cell? ⟨wr.heap.size, 8, none⟩ = some (.int .i64 nd.top) ∧ w'.cell? ⟨wr.heap.size, 9, none⟩ = some (.int .i64 nd.left) ∧ w'.cell? ⟨wr.heap.size, 10, none⟩ = some (.int .i64 nd.bot) ∧ w'.cell? ⟨wr.heap.size, 11, none⟩ = some (.int .i64 nd.right) ∧ w'.cell? ⟨wr.heap.size, 12, none⟩ = some (.int .i64 nd.op) ∧ w'.cell? ⟨wr.heap.size, 13, none⟩ = some (.string nd.name) ∧ w'.cell? ⟨wr.heap.size, 14, none⟩ = some (.int .i64 nd.args)) (first | with_reducible assumption | ((repeat' apply And.intro) <;> (first | (go_keep; done) | (go_simp; done)))) ((go_at_call 22; refine Calls.mono (work_at nd _ _ _ _ (st.drop r) _ (Row.lt (e := 64) (l := st) (c := Th.cells) (sz := 3) (base := w.heap.size) (v := .slice (some ⟨g, 0, none⟩) (r + k) tc) (by with_reducible (repeat' first | assumption | refine Row.drew ?_ | refine Row.past ?_ _)) g rfl).2 (drop_cells (Row.cells Th.cells_size (e := 64) (base := w.heap.size) (m := r + k) (cap := tc) (l := st) (by with_reducible (repeat' first | assumption | refine Row.drew ?_ | refine Row.past ?_ _)))) (by have := HLEN.out; simp; omega) (by omega) (by omega) (by omega) (fun x hx => by have := hdep.out x (List.mem_of_mem_drop hx); omega) HKK.out) ?_; rw [HK.out]; dsimp only [thOut, Th.cells]; rintro e w4 ⟨rfl, hb4⟩; have hB4 : Below w.heap.size w w4 := bup (by with_reducible (repeat' first | assumption | exact Below.refl _ _ | refine Below.drew ?_ | refine bdrewN ?_ _ | refine Below.setCell ?_ (by first | exact Nat.le_refl _ | (simp; done) | (simp; omega) | omega) _ | refine Below.alloc ?_ (by first | exact Nat.le_refl _ | (simp; done) | (simp; omega) | omega) _)) hb4; have o4 : Own w4 (wr.heap.size) #[.int .i64 nd.kind, .int .i64 nd.tag, .int .i64 nd.num, .string nd.str, .bool nd.is, .int .i64 nd.code, .int .i64 nd.row, .int .i64 nd.col, .int .i64 nd.top, .int .i64 nd.left, .int .i64 nd.bot, .int .i64 nd.right, .int .i64 nd.op, .string nd.name, .int .i64 nd.args] := Own.keep (by with_reducible (repeat' first | assumption | refine Own.drew ?_ | refine Own.drewN ?_ _ | (refine Own.at ?_; first | rfl | (simp; done)) | refine Own.past ?_ _ | refine Own.aside ?_ (by first | (simp; done) | (simp; omega) | omega) _)) hb4; have c4 := o4.cell; have l4 := o4.lt; have hr4 : TRow w4 w.heap.size (.slice (some ⟨g, 0, none⟩) (r + k) tc) st := Row.keep (by with_reducible (repeat' first | assumption | refine Row.drew ?_ | refine Row.past ?_ _)) hb4; try (refine with_fact (p := Own w4 (w1.heap.size) #[.bool false, .int .i64 0, .int .i64 0]) ?_ ?_; (· (refine Own.keep ?_ hb4; with_reducible (repeat' first | assumption | refine Own.drew ?_ | refine Own.drewN ?_ _ | (refine Own.at ?_; first | rfl | (simp; done)) | refine Own.past ?_ _ | refine Own.aside ?_ (by first | (simp; done) | (simp; omega) | omega) _); done)); intro o5; have c5 := o5.cell; have l5 := o5.lt; have f5 := o5.fro)))
              · obtain ⟨w6, h6⟩ : ∃ w6, w4.alloc (.cells #[.bool t.many, .int .i64 t.lev, .int .i64 t.dep] 64) = w6 := ⟨_, rfl⟩
                obtain ⟨L, hL⟩ : ∃ L, w4.heap.size = L := ⟨_, rfl⟩
                have o6 : Own w6 L #[.bool t.many, .int .i64 t.lev, .int .i64 t.dep] := by rw [← h6, ← hL]; exact Own.new _ _ _
                have hr6 : TRow w6 w.heap.size (.slice (some ⟨g, 0, none⟩) (r + k) tc) st := by rw [← h6]; exact Row.past hr4 _
                have hB6 : Below w.heap.size w w6 := by rw [← h6]; exact hB4.alloc hB4.size _
                have hgL : ∀ g', ((.slice (some ⟨g, 0, none⟩) r tc) : Value).ownBlock = some g' → g' ≠ L := by intro g' hg'; have hq := (Row.lt hr4 g' (by simpa [Value.ownBlock] using hg')).2; omega
                rw [h6, hL]
                clear h6 hL
                have hz6 := hB6.size
                have c6 := o6.cell
                have f6 := o6.fro
                have l6 := o6.lt
                go_wp2_with fail
                have hr5 := Row.takeR Th.cells_size hr6 (k := r) (by have := HLEN.out; omega)
                go_region_held3 (fun w' => w'.cell? ⟨L, 0, none⟩ = some (.bool t.many) ∧ w'.cell? ⟨L, 1, none⟩ = some (.int .i64 t.lev) ∧ w'.cell? ⟨L, 2, none⟩ = some (.int .i64 t.dep)) (first | with_reducible assumption | ((repeat' apply And.intro) <;> (first | (go_keep; done) | (go_simp; done)))) ((refine step_append_lies _ (by rfl) _ _ _ (by rfl) w.heap.size 64 i0 _ 3 24 Tryd.underlying60 HI.out HZ0.out HZ1.out HZ2.out rfl (by decide) (.slice (some ⟨g, 0, none⟩) r tc) r (flatC Th.cells (st.take r)) (by rfl) (by with_reducible (repeat' first | assumption | refine ownsRow_drew ?_ | refine World.ownsRow.alloc ?_ _)) ⟨w6.heap.size, 0, none⟩ 1 1 t.cells.toList (by rfl) (by rfl) (news_one w6 t.cells _) t.one (by decide) (by unfold maxLen; omega) (by omega) (by have := hB6.size; simp; omega) (w6.heap.size + 1) (by simp) ?_; intro g5 cap5 w5 hown5 hgrow5 hat5 hlt5; have o7 : Own w5 L #[.bool t.many, .int .i64 t.lev, .int .i64 t.dep] := own_grown (by with_reducible (repeat' first | assumption | refine Own.drew ?_ | refine Own.drewN ?_ _ | (refine Own.at ?_; first | rfl | (simp; done)) | refine Own.past ?_ _ | refine Own.aside ?_ (by first | (simp; done) | (simp; omega) | omega) _)) hgrow5 hgL; have c7 := o7.cell))
                go_wp2
                have hfin := app_row (c := Th.cells) (w := w) (l := (st.take r)) (t := t) (by with_reducible (repeat' first | assumption | exact Below.refl _ _ | refine Below.drew ?_ | refine bdrewN ?_ _ | refine Below.setCell ?_ (by first | exact Nat.le_refl _ | (simp; done) | (simp; omega) | omega) _ | refine Below.alloc ?_ (by first | exact Nat.le_refl _ | (simp; done) | (simp; omega) | omega) _)) (fun g' hg' => (Row.lt hr6 g' (by simpa [Value.ownBlock] using hg')).1) HLT.out hown5 hgrow5
                go_roundw
                case rel => exact ⟨i + 1, (st.take r) ++ [t], by go_num, by omega, HP2, hfin.1, hfin.2, by have := HLT.out; (simp <;> omega), HD2⟩
                case measure => simp [intOf]; omega
              · obtain ⟨w6, h6⟩ : ∃ w6, ((w4.setCell ⟨w1.heap.size, 0, none⟩ (.bool t.many)).setCell ⟨w1.heap.size, 1, none⟩ (.int .i64 t.lev)).setCell ⟨w1.heap.size, 2, none⟩ (.int .i64 t.dep) = w6 := ⟨_, rfl⟩
                have hz1 := hB1.size
                have hgL : ∀ g', ((.slice (some ⟨g, 0, none⟩) r tc) : Value).ownBlock = some g' → g' ≠ w1.heap.size := by intro g' hg'; have hq := (Row.lt hr1 g' (by simpa [Value.ownBlock] using hg')).2; omega
                have hgL2 : ∀ g', ((.slice (some ⟨g, 0, none⟩) (r + k) tc) : Value).ownBlock = some g' → g' ≠ w1.heap.size := by intro g' hg'; have hq := (Row.lt hr1 g' hg').2; omega
                have o6 : Own w6 w1.heap.size #[.bool t.many, .int .i64 t.lev, .int .i64 t.dep] := by rw [← h6]; exact own_put3 o5
                have hr6 : TRow w6 w.heap.size (.slice (some ⟨g, 0, none⟩) (r + k) tc) st := by rw [← h6]; exact Row.aside (Row.aside (Row.aside hr4 _ hgL2) _ hgL2) _ hgL2
                have hB6 : Below w.heap.size w w6 := by rw [← h6]; with_reducible (repeat' first | assumption | exact Below.refl _ _ | refine Below.drew ?_ | refine bdrewN ?_ _ | refine Below.setCell ?_ (by first | exact Nat.le_refl _ | (simp; done) | (simp; omega) | omega) _ | refine Below.alloc ?_ (by first | exact Nat.le_refl _ | (simp; done) | (simp; omega) | omega) _)
                obtain ⟨L, hL⟩ : ∃ L, w1.heap.size = L := ⟨_, rfl⟩
                rw [h6, hL]
                rw [hL] at o6 hgL
                clear h6 hL hgL2
                have hz6 := hB6.size
                have c6 := o6.cell
                have f6 := o6.fro
                have l6 := o6.lt
                go_wp2_with fail
                have hr5 := Row.takeR Th.cells_size hr6 (k := r) (by have := HLEN.out; omega)
                go_region_held3 (fun w' => w'.cell? ⟨L, 0, none⟩ = some (.bool t.many) ∧ w'.cell? ⟨L, 1, none⟩ = some (.int .i64 t.lev) ∧ w'.cell? ⟨L, 2, none⟩ = some (.int .i64 t.dep)) (first | with_reducible assumption | ((repeat' apply And.intro) <;> (first | (go_keep; done) | (go_simp; done)))) ((refine step_append_lies _ (by rfl) _ _ _ (by rfl) w.heap.size 64 i0 _ 3 24 Tryd.underlying60 HI.out HZ0.out HZ1.out HZ2.out rfl (by decide) (.slice (some ⟨g, 0, none⟩) r tc) r (flatC Th.cells (st.take r)) (by rfl) (by with_reducible (repeat' first | assumption | refine ownsRow_drew ?_ | refine World.ownsRow.alloc ?_ _)) ⟨w6.heap.size, 0, none⟩ 1 1 t.cells.toList (by rfl) (by rfl) (news_one w6 t.cells _) t.one (by decide) (by unfold maxLen; omega) (by omega) (by have := hB6.size; simp; omega) (w6.heap.size + 1) (by simp) ?_; intro g5 cap5 w5 hown5 hgrow5 hat5 hlt5; have o7 : Own w5 L #[.bool t.many, .int .i64 t.lev, .int .i64 t.dep] := own_grown (by with_reducible (repeat' first | assumption | refine Own.drew ?_ | refine Own.drewN ?_ _ | (refine Own.at ?_; first | rfl | (simp; done)) | refine Own.past ?_ _ | refine Own.aside ?_ (by first | (simp; done) | (simp; omega) | omega) _)) hgrow5 hgL; have c7 := o7.cell))
                go_wp2
                have hfin := app_row (c := Th.cells) (w := w) (l := (st.take r)) (t := t) (by with_reducible (repeat' first | assumption | exact Below.refl _ _ | refine Below.drew ?_ | refine bdrewN ?_ _ | refine Below.setCell ?_ (by first | exact Nat.le_refl _ | (simp; done) | (simp; omega) | omega) _ | refine Below.alloc ?_ (by first | exact Nat.le_refl _ | (simp; done) | (simp; omega) | omega) _)) (fun g' hg' => (Row.lt hr6 g' (by simpa [Value.ownBlock] using hg')).1) HLT.out hown5 hgrow5
                go_roundw
                case rel => exact ⟨i + 1, (st.take r) ++ [t], by go_num, by omega, HP2, hfin.1, hfin.2, by have := HLT.out; (simp <;> omega), HD2⟩
                case measure => simp [intOf]; omega
    · have hlt' : ¬ (i : Int) < n := by omega
      obtain rfl : i = n := by omega
      have HP : Hid (putFrom [] ns = some st) := by show _ = _; rw [← hput.out, List.drop_of_length_le (by rw [HN.out]; exact Nat.le_refl _)]; rfl
      obtain ⟨tp, tc, rfl, htc, htm⟩ := hrow.slice
      by_cases h1 : st.length = 1
      · obtain ⟨t, rfl⟩ : ∃ t, st = [t] := List.length_eq_one_iff.1 h1
        rcases hrow.two Th.cells_size with ⟨e, hst⟩ | ⟨g, cap', e, hg1, hg2, hg3, hg4, hg5, hg6⟩
        · cases hst
        obtain ⟨rfl, rfl⟩ : tp = some ⟨g, 0, none⟩ ∧ tc = cap' := by simpa using e
        have y0 : wr.cell? ⟨g, 0, none⟩ = some (.bool t.many) := hg5 0 t rfl 0 (by decide)
        have y2 : wr.cell? ⟨g, 2, none⟩ = some (.int .i64 t.dep) := hg5 0 t rfl 2 (by decide)
        have e1 : (([t] : List Th).length : Int) = 1 := rfl
        rw [show ([t] : List Th).length = 1 from rfl]
        cases hmn : t.many
        · have HW : Hid (measN ns = some t.dep) := by show _ = _; rw [HME.out, HP.out]; simp [measL, hmn]
          rw [hmn] at y0
          clear hg5 hg6 e hmn
          go_wp2
          go_ret2
          exact ⟨by rw [HW.out]; rfl, by first | assumption | (with_reducible (repeat' first | assumption | exact Below.refl _ _ | refine Below.drew ?_ | refine bdrewN ?_ _ | refine Below.setCell ?_ (by first | exact Nat.le_refl _ | (simp; done) | (simp; omega) | omega) _ | refine Below.alloc ?_ (by first | exact Nat.le_refl _ | (simp; done) | (simp; omega) | omega) _))⟩
        · have HW : Hid (measN ns = none) := by show _ = _; rw [HME.out, HP.out]; simp [measL, hmn]
          rw [hmn] at y0
          clear hg5 hg6 e hmn
          go_wp2
          go_ret2
          exact ⟨by rw [HW.out]; rfl, by first | assumption | (with_reducible (repeat' first | assumption | exact Below.refl _ _ | refine Below.drew ?_ | refine bdrewN ?_ _ | refine Below.setCell ?_ (by first | exact Nat.le_refl _ | (simp; done) | (simp; omega) | omega) _ | refine Below.alloc ?_ (by first | exact Nat.le_refl _ | (simp; done) | (simp; omega) | omega) _))⟩
      · have h1' : ((st.length : Int) == 1) = false := by simp; omega
        have h1'' : ¬ (st.length : Int) = 1 := by omega
        have HW : Hid (measN ns = none) := by
          show _ = _
          rw [HME.out, HP.out]
          match st, h1 with
          | [], _ => rfl
          | a :: b :: l, _ => rfl
        clear h1
        go_wp2
        go_ret2
        exact ⟨by rw [HW.out]; rfl, by first | assumption | (with_reducible (repeat' first | assumption | exact Below.refl _ _ | refine Below.drew ?_ | refine bdrewN ?_ _ | refine Below.setCell ?_ (by first | exact Nat.le_refl _ | (simp; done) | (simp; omega) | omega) _ | refine Below.alloc ?_ (by first | exact Nat.le_refl _ | (simp; done) | (simp; omega) | omega) _))⟩
end Go.Proofs.YtekpmdpmcbjkkaaDoor
