/- The law on a token's own text, walked: at every text it answers true. New memory alone is made. The conditions: a text of at most 1048575 bytes; what package value lays (the names), and that a variable of the library holds a number. -/
import Derived.Test.YtaamphdihmghhaaDoorLH
namespace Go.Proofs.YtaamphdihmghhaaDoor
open Go.Shelf Go.RowKit
set_option linter.all false
theorem take_nAll {l : List Tk} (h : l.length = 2) : l.take (nAll 3 l.length) = l := by
  have e : nAll 3 l.length = 2 := by rw [h]; rfl
  rw [e, List.take_of_length_le (by omega)]
set_option maxRecDepth 100000 in
set_option maxHeartbeats 4000000 in
theorem alone_any (s : ByteArray) (w : World) (hs : s.size + 1 ≤ 1048576) (hN : Vv.Nam w) (hM : Mx w) :
    Calls Tryd.prog 5 #[.string s] w fun e w' => e = .returned (.bool true) ∧ Below w.heap.size w w' := by
  have HA : Hid _ := all_m1 s w (by omega) hN hM
  have HKn : Hid (∀ w1, Below w.heap.size w w1 → Calls Tryd.prog 7 #[] w1 fun e w' => e = .returned (.bool true) ∧ Below w1.heap.size w1 w') := fun w1 hb => known_any w1 (hN.stays hb) (hM.stays hb)
  have HAA : Hid (∀ (w1 : World) (x : ByteArray) (t1 t2 : Tk), Below w.heap.size w w1 → x.size ≤ 1048576 → toks x = [t1, t2] → Calls Tryd.prog 6 #[.string x, .int .i64 3] w1 fun e w' => ∃ v, e = .returned v ∧ IsTs w' w1.heap.size v [t1, t2] ∧ Below w1.heap.size w1 w') := fun w1 x t1 t2 hb hx ht => by
    have h := all_any x 3 w1 hx (by decide) (hN.stays hb) (hM.stays hb)
    rw [take_nAll (by rw [ht]; rfl), ht] at h
    exact h
  have HG : Hid _ := good_toks s
  have HAL : Hid (∀ (i : Nat) (t u : Tk), (toks s)[i]? = some t → (toks s)[i + 1]? = some u → ∃ (a c : Nat) (e1 : Tk), t.at' = a ∧ u.at' = c ∧ a ≤ c ∧ c ≤ s.size ∧ e1.kind = 0 ∧ toks (⟨#[61]⟩ ++ s.extract a c) = [tkSet t 1, e1]) := fun i t u ht hu => alone_all ht hu
  obtain ⟨ts, hts⟩ : ∃ ts, toks s = ts := ⟨_, rfl⟩
  have hlen := toks_le s
  rw [hts] at HA HG hlen HAL
  obtain ⟨m, hm⟩ : ∃ m, ts.length = m + 1 := ⟨ts.length - 1, by have := HG.out.pos; omega⟩
  have HS : Hid (s.size + 1 ≤ 1048576) := hs
  have hs' : s.size < 4000000000 := by omega
  have hm' : m ≤ s.size := by omega
  clear hs hN hM hts hlen
  have mixed : Tryd.prog.follows .mixedOrders = true := by kernel_rfl
  go_enter Tryd.func5, Tryd.ntmps5
  go_wp2_with (first | (go_at_call 6; (refine Calls.mono HA.out ?_; rintro e w1 ⟨v, rfl, hT, hb1⟩; obtain ⟨g, cap, rfl, hg1, hg2, hc, hf, hcap⟩ := hT.form HG.out.pos; rw [hm] at hcap ⊢; clear hT HA)) | (go_at_call 7; (refine Calls.mono (HKn.out w1 hb1) ?_; rintro e w2 ⟨rfl, hb2⟩; have hB2 : Below w.heap.size w w2 := bup hb1 hb2; have hc2 : ∀ i t, ts[i]? = some t → ∀ j, j < 11 → w2.cell? ⟨g, i * 11 + j, none⟩ = t.cells[j]? := (fun i t hi j hj => (hb2.cell (p := ⟨g, i * 11 + j, none⟩) hg2).trans (hc i t hi j hj)); have HC : Hid _ := hc2; have hg3 : g < w2.heap.size := Nat.lt_of_lt_of_le hg2 hb2.size; clear hc2 hc hb2 HKn)))
  go_loopw [4] (fun v w' => ∃ i : Nat, v = .int .i64 i ∧ i ≤ m ∧ Below w2.heap.size w2 w') (fun v _ => m - (intOf v).toNat)
  case atStart => exact ⟨0, rfl, by omega, Below.refl _ _⟩
  case round =>
    obtain ⟨i, rfl, hi, hbw⟩ := hrel
    by_cases hlt : i < m
    · have hlt' : (i : Int) + 1 < (m : Int) + 1 := by omega
      have hti : ts[i]? = some ts[i] := List.getElem?_eq_getElem (by omega)
      have htu : ts[i + 1]? = some ts[i + 1] := List.getElem?_eq_getElem (by omega)
      obtain ⟨a, c, e1, ha, hcc, hac, hcs, hk0, htk⟩ := HAL.out i _ _ hti htu
      have hcw : ∀ (w3 : World), Below w2.heap.size w2 w3 → ∀ i t, ts[i]? = some t → ∀ j, j < 11 → w3.cell? ⟨g, i * 11 + j, none⟩ = t.cells[j]? := fun w3 hb i t hi j hj => (hb.cell (p := ⟨g, i * 11 + j, none⟩) hg3).trans (HC.out i t hi j hj)
      have HCw : Hid _ := hcw
      clear hcw
      have x1 : wr.cell? ⟨g, i * 11 + 1, none⟩ = some (.int .i64 (a : Int)) := (HCw.out wr hbw i _ hti 1 (by decide)).trans (by rw [← ha]; rfl)
      have y1 : wr.cell? ⟨g, (i + 1) * 11 + 1, none⟩ = some (.int .i64 (c : Int)) := (HCw.out wr hbw (i + 1) _ htu 1 (by decide)).trans (by rw [← hcc]; rfl)
      have hac' : ¬ (c : Int) < (a : Int) := by omega
      have hac2 : (a : Int) ≤ (c : Int) := by omega
      have hcs' : ¬ (s.size : Int) < (c : Int) := by omega
      have hcs2 : (c : Int) ≤ (s.size : Int) := by omega
      have ha0 : ¬ (a : Int) < 0 := by omega
      have hsx : (s.extract a c).size ≤ s.size := by rw [ByteArray.size_extract]; omega
      have hcat : ¬ (9223372036854775807 < 1 + (s.extract a c).size) := by omega
      have HTI : Hid _ := hti
      have HHA : Hid _ := HAA.out wr (⟨#[61]⟩ ++ s.extract a c) _ _ (bup hB2 hbw) (by rw [ByteArray.size_append]; have := HS.out; show 1 + _ ≤ _; omega) htk
      clear htk hti htu hcc
      revert HTI HHA ha
      generalize ts[i] = t
      intro ha HTI HHA
      have hne := neT (tkSet t 1)
      unfold tkSet at hne
      dsimp only at hne
      go_wp2_with (go_at_call 6; (refine Calls.mono HHA.out ?_; rintro e w3 ⟨v, rfl, hT2, hb3⟩; obtain ⟨g2, cap2, rfl, hg21, hg22, hc2, hf2, hcap2⟩ := hT2.form (by simp); have hbw3 : Below w2.heap.size w2 w3 := bup hbw hb3; have z0 : ∀ o, (w3.alloc o).cell? ⟨g2, 0, none⟩ = some (.int .i64 t.kind) := (fun o => (World.cell?_of_block (Below.heap_alloc w3 _ _ hg22)).trans ((hc2 0 _ rfl 0 (by decide)).trans rfl)); have z1 : ∀ o, (w3.alloc o).cell? ⟨g2, 1, none⟩ = some (.int .i64 1) := (fun o => (World.cell?_of_block (Below.heap_alloc w3 _ _ hg22)).trans ((hc2 0 _ rfl 1 (by decide)).trans rfl)); have z2 : ∀ o, (w3.alloc o).cell? ⟨g2, 2, none⟩ = some (.int .i64 t.num) := (fun o => (World.cell?_of_block (Below.heap_alloc w3 _ _ hg22)).trans ((hc2 0 _ rfl 2 (by decide)).trans rfl)); have z3 : ∀ o, (w3.alloc o).cell? ⟨g2, 3, none⟩ = some (.string t.str) := (fun o => (World.cell?_of_block (Below.heap_alloc w3 _ _ hg22)).trans ((hc2 0 _ rfl 3 (by decide)).trans rfl)); have z4 : ∀ o, (w3.alloc o).cell? ⟨g2, 4, none⟩ = some (.int .i64 t.c0) := (fun o => (World.cell?_of_block (Below.heap_alloc w3 _ _ hg22)).trans ((hc2 0 _ rfl 4 (by decide)).trans rfl)); have z5 : ∀ o, (w3.alloc o).cell? ⟨g2, 5, none⟩ = some (.int .i64 t.c1) := (fun o => (World.cell?_of_block (Below.heap_alloc w3 _ _ hg22)).trans ((hc2 0 _ rfl 5 (by decide)).trans rfl)); have z6 : ∀ o, (w3.alloc o).cell? ⟨g2, 6, none⟩ = some (.int .i64 t.r0) := (fun o => (World.cell?_of_block (Below.heap_alloc w3 _ _ hg22)).trans ((hc2 0 _ rfl 6 (by decide)).trans rfl)); have z7 : ∀ o, (w3.alloc o).cell? ⟨g2, 7, none⟩ = some (.int .i64 t.r1) := (fun o => (World.cell?_of_block (Below.heap_alloc w3 _ _ hg22)).trans ((hc2 0 _ rfl 7 (by decide)).trans rfl)); have z8 : ∀ o, (w3.alloc o).cell? ⟨g2, 8, none⟩ = some (.int .i64 t.r2) := (fun o => (World.cell?_of_block (Below.heap_alloc w3 _ _ hg22)).trans ((hc2 0 _ rfl 8 (by decide)).trans rfl)); have z9 : ∀ o, (w3.alloc o).cell? ⟨g2, 9, none⟩ = some (.int .i64 t.r3) := (fun o => (World.cell?_of_block (Below.heap_alloc w3 _ _ hg22)).trans ((hc2 0 _ rfl 9 (by decide)).trans rfl)); have z10 : ∀ o, (w3.alloc o).cell? ⟨g2, 10, none⟩ = some (.int .i64 t.code) := (fun o => (World.cell?_of_block (Below.heap_alloc w3 _ _ hg22)).trans ((hc2 0 _ rfl 10 (by decide)).trans rfl)); have x0 : w3.cell? ⟨g, i * 11, none⟩ = some (.int .i64 t.kind) := HCw.out w3 hbw3 i _ HTI.out 0 (by decide); have x2 : w3.cell? ⟨g, i * 11 + 2, none⟩ = some (.int .i64 t.num) := HCw.out w3 hbw3 i _ HTI.out 2 (by decide); have x3 : w3.cell? ⟨g, i * 11 + 3, none⟩ = some (.string t.str) := HCw.out w3 hbw3 i _ HTI.out 3 (by decide); have x4 : w3.cell? ⟨g, i * 11 + 4, none⟩ = some (.int .i64 t.c0) := HCw.out w3 hbw3 i _ HTI.out 4 (by decide); have x5 : w3.cell? ⟨g, i * 11 + 5, none⟩ = some (.int .i64 t.c1) := HCw.out w3 hbw3 i _ HTI.out 5 (by decide); have x6 : w3.cell? ⟨g, i * 11 + 6, none⟩ = some (.int .i64 t.r0) := HCw.out w3 hbw3 i _ HTI.out 6 (by decide); have x7 : w3.cell? ⟨g, i * 11 + 7, none⟩ = some (.int .i64 t.r1) := HCw.out w3 hbw3 i _ HTI.out 7 (by decide); have x8 : w3.cell? ⟨g, i * 11 + 8, none⟩ = some (.int .i64 t.r2) := HCw.out w3 hbw3 i _ HTI.out 8 (by decide); have x9 : w3.cell? ⟨g, i * 11 + 9, none⟩ = some (.int .i64 t.r3) := HCw.out w3 hbw3 i _ HTI.out 9 (by decide); have x10 : w3.cell? ⟨g, i * 11 + 10, none⟩ = some (.int .i64 t.code) := HCw.out w3 hbw3 i _ HTI.out 10 (by decide); have x1 : w3.cell? ⟨g, i * 11 + 1, none⟩ = some (.int .i64 t.at') := HCw.out w3 hbw3 i _ HTI.out 1 (by decide); have zk : ∀ o, (w3.alloc o).cell? ⟨g2, 11, none⟩ = some (.int .i64 0) := (fun o => (World.cell?_of_block (Below.heap_alloc w3 _ _ hg22)).trans ((hc2 1 _ rfl 0 (by decide)).trans (by rw [← hk0]; rfl))); have hzz := hbw3.size; clear hc2 hT2 hf2 HHA))
      go_big_quiet (fail)
      go_wp2
      refine ⟨?_, ?_⟩
      · iterate 65 (apply Exists.intro)
        refine ⟨?_, rfl⟩
        exact ⟨i + 1, by go_num, by omega, bdrewN (by with_reducible (repeat' first | assumption | exact Below.refl _ _ | refine Below.drew ?_ | refine Below.setCell ?_ (by first | exact Nat.le_refl _ | (simp; done) | (simp; omega) | omega) _ | refine Below.alloc ?_ (by first | exact Nat.le_refl _ | (simp; done) | (simp; omega) | omega) _)) _⟩
      · first | (simp [intOf]; done) | (simp [intOf]; omega)
    · have hlt' : ¬ (i : Int) + 1 < (m : Int) + 1 := by omega
      go_wp2
      go_ret
      exact ⟨rfl, bup hB2 hbw⟩
end Go.Proofs.YtaamphdihmghhaaDoor
