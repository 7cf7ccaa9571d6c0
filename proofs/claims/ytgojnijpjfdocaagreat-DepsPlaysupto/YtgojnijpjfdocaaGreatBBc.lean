/- The contract of slices.BinarySearchFunc at a row, by how each stands to what is looked for. New memory alone is made. -/
import Derived.Test.YtgojnijpjfdocaaGreatEC
import Derived.Test.YtgojnijpjfdocaaGreatBO
namespace Go.Proofs.YtgojnijpjfdocaaGreat
open Go.RowKit
set_option linter.all false
theorem callfc (args : Array Value) (W : World) : (callFunc 34 args).run Tryz.prog W = .ok (.enter 34 args) W := by kernel_rfl
set_option maxRecDepth 100000 in
set_option maxHeartbeats 2000000 in
theorem bs_yc (w : World) (b cp n : Nat) (l : List Cl) (k0 k1 : Int) (f : Cl → Int) (hla : b < w.heap.size) (HA : ∀ i x j u, l[i]? = some x → x.cs[j]? = some u → w.cell? ⟨b, i * 2 + j, none⟩ = some u) (hn : l.length = n) (hc : n ≤ cp) (hl : n ≤ 4000000000000) (hS : Hid (MonoF f l)) (HKf : Hid (∀ W : World, Below w.heap.size w W → ∀ x ∈ l, Calls Tryz.prog 34 #[.agg #[.int .i64 x.r, .int .i64 x.c], .agg #[.int .i64 k0, .int .i64 k1]] W fun e w' => e = .returned (.int .i64 (f x)) ∧ Below W.heap.size W w')) :
    Calls Tryz.prog 43 #[.slice (some ⟨b, 0, none⟩) n cp, .agg #[.int .i64 k0, .int .i64 k1], (.func (.func 34) #[] #[])] w fun e w' => e = .returned (.tuple #[.int .i64 (idxF f l), .bool (hasF f l)]) ∧ Below w.heap.size w w' := by
  have HA' : Hid _ := HA
  have HL : Hid (l.length = n) := hn
  clear HA hn
  have mixed : Tryz.prog.follows .mixedOrders = true := by kernel_rfl
  go_enter Tryz.func43, Tryz.ntmps43
  go_wp2
  go_loopw [9, 10] (fun u v w' => ∃ (i j : Nat), u = .int .i64 i ∧ v = .int .i64 j ∧ i ≤ j ∧ j ≤ n ∧ Hid (∀ t x, t < i → l[t]? = some x → f x < 0) ∧ Hid (∀ t x, j ≤ t → l[t]? = some x → 0 ≤ f x) ∧ Own w' w.heap.size #[.int .i64 k0, .int .i64 k1] ∧ Below w.heap.size w w') (fun u v _ => (intOf v).toNat - (intOf u).toNat)
  case atStart => exact ⟨0, n, rfl, rfl, by omega, by omega, (show Hid _ from fun t x h => absurd h (Nat.not_lt_zero _)), (show Hid _ from fun t x h hx => absurd (List.getElem?_eq_some_iff.1 hx).1 (by rw [HL.out]; omega)), by with_reducible (repeat' first | assumption | refine Own.drew ?_ | refine Own.drewN ?_ _ | (refine Own.at ?_; first | rfl | (simp; done)) | refine Own.past ?_ _), by with_reducible (repeat' first | assumption | exact Below.refl _ _ | refine Below.drew ?_ | refine bdrewN ?_ _ | refine Below.setCell ?_ (by first | exact Nat.le_refl _ | (simp; done) | (simp; omega) | omega) _ | refine Below.alloc ?_ (by first | exact Nat.le_refl _ | (simp; done) | (simp; omega) | omega) _)⟩
  case round =>
    obtain ⟨i, j, rfl, rfl, hij, hjn, hlo, hhi, oK, hB3⟩ := hrel
    have cK := oK.cell
    have lK := oK.lt
    have z3 := hB3.size
    by_cases hlt : i < j
    · have hlt' : (i : Int) < j := by omega
      obtain ⟨h, hh⟩ : ∃ h : Nat, h = (i + j) / 2 := ⟨_, rfl⟩
      have h1 : i ≤ h := by omega
      have h2 : h < j := by omega
      have h3 : (h : Int) < n := by omega
      have h4 : (0 : Int) ≤ h := by omega
      have hd1 : ((i : Int) + j) / 2 = h := by omega
      have hd2 : ((i : Int) + j) >>> 1 = h := by rw [Int.shiftRight_eq_div_pow]; omega
      obtain ⟨x, hai⟩ : ∃ x, l[h]? = some x := ⟨_, List.getElem?_eq_getElem (by rw [HL.out]; omega)⟩
      have ca' : ∀ j u, x.cs[j]? = some u → wr.cell? ⟨b, h * 2 + j, none⟩ = some u := fun j u hu => (hB3.cell (p := ⟨b, h * 2 + j, none⟩) hla).trans (HA'.out h x j u hai hu)
      have y0 : wr.cell? ⟨b, h * 2, none⟩ = some (.int .i64 x.r) := ca' 0 _ rfl
      have y1 : wr.cell? ⟨b, h * 2 + 1, none⟩ = some (.int .i64 x.c) := ca' 1 _ rfl
      have HAi : Hid (l[h]? = some x) := hai
      have HK : Hid (∀ W : World, Below w.heap.size w W → Calls Tryz.prog 34 #[.agg #[.int .i64 x.r, .int .i64 x.c], .agg #[.int .i64 k0, .int .i64 k1]] W fun e w' => e = .returned (.int .i64 (f x)) ∧ Below W.heap.size W w') := (show _ from fun W hb => HKf.out W hb x (List.mem_of_getElem? hai))
      clear ca' hai hh
      obtain ⟨q, hq⟩ : ∃ q : Int, f x = q := ⟨_, rfl⟩
      rw [hq] at HK
      have HQ : Hid (f x = q) := hq
      clear hq
      by_cases hneg : q < 0
      · go_wp2
        go_region_held3 (fun w' => w'.cell? ⟨b, h * 2, none⟩ = some (.int .i64 x.r) ∧ w'.cell? ⟨b, h * 2 + 1, none⟩ = some (.int .i64 x.c) ∧ w'.cell? ⟨w.heap.size, 0, none⟩ = some (.int .i64 k0) ∧ w'.cell? ⟨w.heap.size, 1, none⟩ = some (.int .i64 k1)) ((repeat' apply And.intro) <;> (first | (go_keep; done) | (go_simp; done))) ((go_at_call 34; refine (HK.out _ (by with_reducible (repeat' first | assumption | exact Below.refl _ _ | refine Below.drew ?_ | refine bdrewN ?_ _ | refine Below.setCell ?_ (by first | exact Nat.le_refl _ | (simp; done) | (simp; omega) | omega) _ | refine Below.alloc ?_ (by first | exact Nat.le_refl _ | (simp; done) | (simp; omega) | omega) _))).mono ?_; rintro e wa ⟨rfl, hbwa⟩; have hBwa : Below w.heap.size w wa := bup (by with_reducible (repeat' first | assumption | exact Below.refl _ _ | refine Below.drew ?_ | refine bdrewN ?_ _ | refine Below.setCell ?_ (by first | exact Nat.le_refl _ | (simp; done) | (simp; omega) | omega) _ | refine Below.alloc ?_ (by first | exact Nat.le_refl _ | (simp; done) | (simp; omega) | omega) _)) hbwa; have hRwa : Below wr.heap.size wr wa := bup (by with_reducible (repeat' first | assumption | exact Below.refl _ _ | refine Below.drew ?_ | refine bdrewN ?_ _ | refine Below.setCell ?_ (by first | exact Nat.le_refl _ | (simp; done) | (simp; omega) | omega) _ | refine Below.alloc ?_ (by first | exact Nat.le_refl _ | (simp; done) | (simp; omega) | omega) _)) hbwa; have oKa := oK.keep hRwa; have cKa := oKa.cell; have ya0 := (hRwa.cell (p := ⟨b, h * 2, none⟩) (Nat.lt_of_lt_of_le hla z3)).trans y0; have ya1 := (hRwa.cell (p := ⟨b, h * 2 + 1, none⟩) (Nat.lt_of_lt_of_le hla z3)).trans y1))
        go_wp2
        exact ⟨⟨h + 1, j, by go_num, rfl, by omega, by omega, (show Hid _ from loF_next hS.out HAi.out (by rw [HQ.out]; exact hneg)), hhi, oKa, hBwa⟩, by simp [intOf]; omega⟩
      · go_wp2
        go_region_held3 (fun w' => w'.cell? ⟨b, h * 2, none⟩ = some (.int .i64 x.r) ∧ w'.cell? ⟨b, h * 2 + 1, none⟩ = some (.int .i64 x.c) ∧ w'.cell? ⟨w.heap.size, 0, none⟩ = some (.int .i64 k0) ∧ w'.cell? ⟨w.heap.size, 1, none⟩ = some (.int .i64 k1)) ((repeat' apply And.intro) <;> (first | (go_keep; done) | (go_simp; done))) ((go_at_call 34; refine (HK.out _ (by with_reducible (repeat' first | assumption | exact Below.refl _ _ | refine Below.drew ?_ | refine bdrewN ?_ _ | refine Below.setCell ?_ (by first | exact Nat.le_refl _ | (simp; done) | (simp; omega) | omega) _ | refine Below.alloc ?_ (by first | exact Nat.le_refl _ | (simp; done) | (simp; omega) | omega) _))).mono ?_; rintro e wa ⟨rfl, hbwa⟩; have hBwa : Below w.heap.size w wa := bup (by with_reducible (repeat' first | assumption | exact Below.refl _ _ | refine Below.drew ?_ | refine bdrewN ?_ _ | refine Below.setCell ?_ (by first | exact Nat.le_refl _ | (simp; done) | (simp; omega) | omega) _ | refine Below.alloc ?_ (by first | exact Nat.le_refl _ | (simp; done) | (simp; omega) | omega) _)) hbwa; have hRwa : Below wr.heap.size wr wa := bup (by with_reducible (repeat' first | assumption | exact Below.refl _ _ | refine Below.drew ?_ | refine bdrewN ?_ _ | refine Below.setCell ?_ (by first | exact Nat.le_refl _ | (simp; done) | (simp; omega) | omega) _ | refine Below.alloc ?_ (by first | exact Nat.le_refl _ | (simp; done) | (simp; omega) | omega) _)) hbwa; have oKa := oK.keep hRwa; have cKa := oKa.cell; have ya0 := (hRwa.cell (p := ⟨b, h * 2, none⟩) (Nat.lt_of_lt_of_le hla z3)).trans y0; have ya1 := (hRwa.cell (p := ⟨b, h * 2 + 1, none⟩) (Nat.lt_of_lt_of_le hla z3)).trans y1))
        go_wp2
        exact ⟨⟨i, h, rfl, rfl, by omega, by omega, hlo, (show Hid _ from hiF_next hS.out HAi.out (by rw [HQ.out]; omega)), oKa, hBwa⟩, by simp [intOf]; omega⟩
    · have hlt' : ¬ (i : Int) < j := by omega
      have HI : Hid (i = idxF f l) := (show _ from idxF_of hS.out (by rw [HL.out]; omega) hlo.out (fun t x ht => hhi.out t x (by omega)))
      by_cases hin : i < n
      · have hin' : (i : Int) < n := by omega
        have hin'' : decide ((i : Int) < n) = true := by simpa using hin
        obtain ⟨h, hhi'⟩ : ∃ h, h = i := ⟨_, rfl⟩
        subst hhi'
        obtain ⟨x, hai⟩ : ∃ x, l[h]? = some x := ⟨_, List.getElem?_eq_getElem (by rw [HL.out]; omega)⟩
        have ca' : ∀ j u, x.cs[j]? = some u → wr.cell? ⟨b, h * 2 + j, none⟩ = some u := fun j u hu => (hB3.cell (p := ⟨b, h * 2 + j, none⟩) hla).trans (HA'.out h x j u hai hu)
        have y0 : wr.cell? ⟨b, h * 2, none⟩ = some (.int .i64 x.r) := ca' 0 _ rfl
        have y1 : wr.cell? ⟨b, h * 2 + 1, none⟩ = some (.int .i64 x.c) := ca' 1 _ rfl
        have HK : Hid (∀ W : World, Below w.heap.size w W → Calls Tryz.prog 34 #[.agg #[.int .i64 x.r, .int .i64 x.c], .agg #[.int .i64 k0, .int .i64 k1]] W fun e w' => e = .returned (.int .i64 (f x)) ∧ Below W.heap.size W w') := (show _ from fun W hb => HKf.out W hb x (List.mem_of_getElem? hai))
        have HF : Hid (hasF f l = decide (f x = 0)) := (show _ from idx_has hS.out (by rw [← HI.out]; exact hai))
        clear ca' hai
        obtain ⟨q, hq⟩ : ∃ q : Int, f x = q := ⟨_, rfl⟩
        rw [hq] at HK HF
        clear hq
        by_cases hz : q = 0
        · subst hz
          go_wp2
          go_region_held3 (fun w' => w'.cell? ⟨b, h * 2, none⟩ = some (.int .i64 x.r) ∧ w'.cell? ⟨b, h * 2 + 1, none⟩ = some (.int .i64 x.c) ∧ w'.cell? ⟨w.heap.size, 0, none⟩ = some (.int .i64 k0) ∧ w'.cell? ⟨w.heap.size, 1, none⟩ = some (.int .i64 k1)) ((repeat' apply And.intro) <;> (first | (go_keep; done) | (go_simp; done))) ((go_at_call 34; refine (HK.out _ (by with_reducible (repeat' first | assumption | exact Below.refl _ _ | refine Below.drew ?_ | refine bdrewN ?_ _ | refine Below.setCell ?_ (by first | exact Nat.le_refl _ | (simp; done) | (simp; omega) | omega) _ | refine Below.alloc ?_ (by first | exact Nat.le_refl _ | (simp; done) | (simp; omega) | omega) _))).mono ?_; rintro e wa ⟨rfl, hbwa⟩; have hBwa : Below w.heap.size w wa := bup (by with_reducible (repeat' first | assumption | exact Below.refl _ _ | refine Below.drew ?_ | refine bdrewN ?_ _ | refine Below.setCell ?_ (by first | exact Nat.le_refl _ | (simp; done) | (simp; omega) | omega) _ | refine Below.alloc ?_ (by first | exact Nat.le_refl _ | (simp; done) | (simp; omega) | omega) _)) hbwa; have hRwa : Below wr.heap.size wr wa := bup (by with_reducible (repeat' first | assumption | exact Below.refl _ _ | refine Below.drew ?_ | refine bdrewN ?_ _ | refine Below.setCell ?_ (by first | exact Nat.le_refl _ | (simp; done) | (simp; omega) | omega) _ | refine Below.alloc ?_ (by first | exact Nat.le_refl _ | (simp; done) | (simp; omega) | omega) _)) hbwa; have oKa := oK.keep hRwa; have cKa := oKa.cell; have ya0 := (hRwa.cell (p := ⟨b, h * 2, none⟩) (Nat.lt_of_lt_of_le hla z3)).trans y0; have ya1 := (hRwa.cell (p := ⟨b, h * 2 + 1, none⟩) (Nat.lt_of_lt_of_le hla z3)).trans y1))
          go_wp2
          exact bodyPost_ret (v := .tuple #[.int .i64 h, .bool true]) (by simp [results, Tryz.results43, go_sem]) rfl ⟨by rw [← HI.out, HF.out]; rfl, hBwa⟩
        · have hqb : (q == 0) = false := by simpa using hz
          go_wp2
          go_region_held3 (fun w' => w'.cell? ⟨b, h * 2, none⟩ = some (.int .i64 x.r) ∧ w'.cell? ⟨b, h * 2 + 1, none⟩ = some (.int .i64 x.c) ∧ w'.cell? ⟨w.heap.size, 0, none⟩ = some (.int .i64 k0) ∧ w'.cell? ⟨w.heap.size, 1, none⟩ = some (.int .i64 k1)) ((repeat' apply And.intro) <;> (first | (go_keep; done) | (go_simp; done))) ((go_at_call 34; refine (HK.out _ (by with_reducible (repeat' first | assumption | exact Below.refl _ _ | refine Below.drew ?_ | refine bdrewN ?_ _ | refine Below.setCell ?_ (by first | exact Nat.le_refl _ | (simp; done) | (simp; omega) | omega) _ | refine Below.alloc ?_ (by first | exact Nat.le_refl _ | (simp; done) | (simp; omega) | omega) _))).mono ?_; rintro e wa ⟨rfl, hbwa⟩; have hBwa : Below w.heap.size w wa := bup (by with_reducible (repeat' first | assumption | exact Below.refl _ _ | refine Below.drew ?_ | refine bdrewN ?_ _ | refine Below.setCell ?_ (by first | exact Nat.le_refl _ | (simp; done) | (simp; omega) | omega) _ | refine Below.alloc ?_ (by first | exact Nat.le_refl _ | (simp; done) | (simp; omega) | omega) _)) hbwa; have hRwa : Below wr.heap.size wr wa := bup (by with_reducible (repeat' first | assumption | exact Below.refl _ _ | refine Below.drew ?_ | refine bdrewN ?_ _ | refine Below.setCell ?_ (by first | exact Nat.le_refl _ | (simp; done) | (simp; omega) | omega) _ | refine Below.alloc ?_ (by first | exact Nat.le_refl _ | (simp; done) | (simp; omega) | omega) _)) hbwa; have oKa := oK.keep hRwa; have cKa := oKa.cell; have ya0 := (hRwa.cell (p := ⟨b, h * 2, none⟩) (Nat.lt_of_lt_of_le hla z3)).trans y0; have ya1 := (hRwa.cell (p := ⟨b, h * 2 + 1, none⟩) (Nat.lt_of_lt_of_le hla z3)).trans y1))
          go_wp2
          exact bodyPost_ret (v := .tuple #[.int .i64 h, .bool false]) (by simp [results, Tryz.results43, go_sem, hz]) rfl ⟨by rw [← HI.out, HF.out]; simp [hz], hBwa⟩
      · have hin' : ¬ (i : Int) < n := by omega
        have hin'' : decide ((i : Int) < n) = false := by simpa using hin
        have HF : Hid (hasF f l = false) := (show _ from idx_end hS.out (by rw [← HI.out, HL.out]; omega))
        go_wp2
        go_quiet (fail)
        go_wp2
        exact bodyPost_ret (v := .tuple #[.int .i64 i, .bool false]) (by simp [results, Tryz.results43, go_sem]) rfl ⟨by rw [← HI.out, HF.out], by with_reducible (repeat' first | assumption | exact Below.refl _ _ | refine Below.drew ?_ | refine bdrewN ?_ _ | refine Below.setCell ?_ (by first | exact Nat.le_refl _ | (simp; done) | (simp; omega) | omega) _ | refine Below.alloc ?_ (by first | exact Nat.le_refl _ | (simp; done) | (simp; omega) | omega) _)⟩
set_option maxRecDepth 100000 in
theorem bs_nilc (w : World) (k0 k1 : Int) :
    Calls Tryz.prog 43 #[.slice none 0 0, .agg #[.int .i64 k0, .int .i64 k1], (.func (.func 34) #[] #[])] w fun e w' => e = .returned (.tuple #[.int .i64 0, .bool false]) ∧ Below w.heap.size w w' := by
  have mixed : Tryz.prog.follows .mixedOrders = true := by kernel_rfl
  go_enter Tryz.func43, Tryz.ntmps43
  go_wp2
  go_loop [9, 10] (fun u v => u = .int .i64 0 ∧ v = .int .i64 0) (fun _ _ => 0)
  case atStart => exact ⟨rfl, rfl⟩
  case round =>
    obtain ⟨rfl, rfl⟩ := hrel
    go_wp2
    go_quiet (fail)
    go_wp2
    exact bodyPost_ret (v := .tuple #[.int .i64 0, .bool false]) (by simp [results, Tryz.results43, go_sem]) rfl ⟨rfl, by with_reducible (repeat' first | assumption | exact Below.refl _ _ | refine Below.drew ?_ | refine bdrewN ?_ _ | refine Below.setCell ?_ (by first | exact Nat.le_refl _ | (simp; done) | (simp; omega) | omega) _ | refine Below.alloc ?_ (by first | exact Nat.le_refl _ | (simp; done) | (simp; omega) | omega) _)⟩
/-- slices.BinarySearchFunc, everywhere. -/
theorem bs_anyc (w : World) (v : Value) (l : List Cl) (k0 k1 : Int) (f : Cl → Int) (hv : RowK w v l) (hl : l.length ≤ 4000000000000) (hS : MonoF f l) (HK : (∀ W : World, Below w.heap.size w W → ∀ x ∈ l, Calls Tryz.prog 34 #[.agg #[.int .i64 x.r, .int .i64 x.c], .agg #[.int .i64 k0, .int .i64 k1]] W fun e w' => e = .returned (.int .i64 (f x)) ∧ Below W.heap.size W w')) :
    Calls Tryz.prog 43 #[v, .agg #[.int .i64 k0, .int .i64 k1], (.func (.func 34) #[] #[])] w fun e w' => e = .returned (.tuple #[.int .i64 (idxF f l), .bool (hasF f l)]) ∧ Below w.heap.size w w' := by
  rcases hv.two with ⟨rfl, rfl⟩ | ⟨g, cap, cur, rfl, _, h1, h2, h3, h4, h5, h6⟩
  · exact bs_nilc w k0 k1
  · exact bs_yc w g cap l.length l k0 k1 f h1 (row_cellsG Cl.len h2 h6) rfl h3 hl hS HK
end Go.Proofs.YtgojnijpjfdocaaGreat
