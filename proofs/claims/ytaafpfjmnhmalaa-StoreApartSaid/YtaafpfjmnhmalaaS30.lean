/- The law's begin. -/
import Derived.Test.YtaafpfjmnhmalaaS29
namespace Go.Proofs.Ytaafpfjmnhmalaa
open Go.RowKit
set_option linter.all false
theorem Bg.zero {w0 : Nat} {w1 w : World} (hs : SW w1 (dNew w0) w0 []) (hb : Below w1.heap.size w1 w) (hz : w1.heap.size = w0 + 1) (hy : Own w (w0 + 1) #[.slice none 0 0]) (hq : Own w (w0 + 2) #[ptr w0, ptr (w0 + 1), .slice none 0 0]) : Bg w0 w (.slice none 0 0) [] :=
  ⟨hq, ⟨by simp, .inl ⟨rfl, rfl⟩⟩, by simp, fun x hx => (by cases hx), hs.keep hb, hy, by have := hq.lt; omega⟩
theorem RowP.src {w : World} {x y : Nat} (h : Own w y #[ptr x]) : ∀ j u, [ptr x][j]? = some u → w.cell? ((⟨y, 0, none⟩ : Addr).add j) = some u := fun j u hu => by
  rw [add_none, Nat.zero_add, h.cell j]
  cases j with
  | zero => simpa using hu
  | succ n => simp at hu
theorem Bg.step {w0 : Nat} {w W w2 : World} {v : Value} {xs : List Nat} {i g cap : Nat} (h : Bg w0 w v xs) (hl : xs.length = i) (k1 : w2.ownsRow (w0 + 3) 46 1 (.slice (some ⟨g, 0, none⟩) (i + 1) cap) (i + 1) (xs.map ptr ++ [ptr w.heap.size])) (k2 : W.grownBy w2 v.ownBlock) (k3 : v.ownBlock = some g ∨ g = W.heap.size) (hB : Below w.heap.size w W) (hc : ∃ cs T, W.heap[w.heap.size]? = some (.cells cs T (0, 0))) :
    Own w2 (w0 + 1 + 1) #[ptr w0, ptr (w0 + 1), v] ∧ Hid (Bg w0 (w2.setCell ⟨w0 + 1 + 1, 2, none⟩ (.slice (some ⟨g, 0, none⟩) (i + 1) cap)) (.slice (some ⟨g, 0, none⟩) (i + 1) cap) (xs ++ [w.heap.size])) ∧ Below w0 w w2 := by
  obtain ⟨cs, T, hc⟩ := hc
  have hsz := h.sz
  have hW := hB.size
  refine ⟨(h.q.keep hB).of_block (k2.block _ (by omega) (fun q => ?_)), (show Bg _ _ _ _ from h.more hB (Nat.le_refl _) hc (by
    unfold RowP
    rw [List.length_append, List.map_append, hl]
    exact k1) k2 (by
    rcases k3 with q | q
    · exact .inl q.symm
    · exact .inr (by rw [q]; rfl))), Bg.grown (v' := v) h hB k2 hW⟩
  have := (h.r.lt _ q.symm).1
  omega
theorem two_new (w : World) (a b : Array Value) (T U : TypeId) : ∃ cs S, ((w.alloc (.cells a T)).alloc (.cells b U)).heap[w.heap.size]? = some (.cells cs S (0, 0)) :=
  ⟨a, T, (heap_alloc_old _ _ (by simp)).trans (heap_alloc_new _ _)⟩
set_option maxRecDepth 100000 in
set_option maxHeartbeats 4000000 in
theorem begin_any (w : World) : Calls Try.prog 8 #[] w fun e w' => ∃ k : Bx, e = .returned (.pointer (some ⟨k.q, 0, none⟩)) ∧ BW w' (fun b => w.heap.size ≤ b ∧ b < w'.heap.size) k [] [] ∧ Below w.heap.size w w' := by
  have mixed : Try.prog.follows .mixedOrders = true := by kernel_rfl
  obtain ⟨i0, hi0, hz0, hs0, hb0⟩ := info_parts infoPt
  have HN : Hid (∀ W, Calls Try.prog 13 #[] W fun e w' => e = .returned (.pointer (some ⟨W.heap.size, 0, none⟩)) ∧ SW w' (dNew W.heap.size) W.heap.size [] ∧ Below W.heap.size W w' ∧ w'.heap.size = W.heap.size + 1) := new_sw
  go_enter Try.func8, Try.ntmps8
  go_wp2_with (go_at_call 13; refine (HN.out _).mono ?_; rintro e w1 ⟨rfl, hs, hb1, z1⟩; have HS : Hid _ := hs; clear hs; have hB1 : Below w.heap.size w w1 := hb1; clear hb1)
  go_loopw [2] (fun u w' => ∃ (i : Nat) (v : Value) (xs : List Nat), u = .int .i64 i ∧ i ≤ 8 ∧ xs.length = i ∧ Hid (Bg w.heap.size w' v xs) ∧ Below w.heap.size w w') (fun u _ => 8 - (intOf u).toNat)
  case atStart => exact ⟨0, _, [], rfl, by omega, rfl, (show Hid _ from Bg.zero HS.out (by with_reducible (repeat' first | assumption | exact Below.refl _ _ | refine Below.drew ?_ | refine bdrewN ?_ _ | refine Below.setCell ?_ (by first | exact Nat.le_refl _ | (simp; done) | (simp; omega) | omega) _ | refine Below.alloc ?_ (by first | exact Nat.le_refl _ | (simp; done) | (simp; omega) | omega) _)) z1 (by rw [← z1]; with_reducible (repeat' first | assumption | refine Own.drew ?_ | refine Own.drewN ?_ _ | (refine Own.at ?_; first | rfl | (simp; done)) | refine Own.past ?_ _)) (Own.at (by simp [z1]))), by with_reducible (repeat' first | assumption | exact Below.refl _ _ | refine Below.drew ?_ | refine bdrewN ?_ _ | refine Below.setCell ?_ (by first | exact Nat.le_refl _ | (simp; done) | (simp; omega) | omega) _ | refine Below.alloc ?_ (by first | exact Nat.le_refl _ | (simp; done) | (simp; omega) | omega) _)⟩
  case round =>
    obtain ⟨i, v, xs, rfl, hi, hl, HG, hB⟩ := hrel
    clear hB1 HS z1
    by_cases hlt : i < 8
    · have hlt' : (i : Int) < 8 := by omega
      have hq := HG.out.q.cell
      have hqf := HG.out.q.fro
      have hql : w.heap.size + 1 + 1 < wr.heap.size := HG.out.q.lt
      have hz := HG.out.sz
      have hq2 : wr.cell? ⟨w.heap.size + 1 + 1, 2, none⟩ = some v := hq 2
      have hqf2 : wr.frozen? ⟨w.heap.size + 1 + 1, 2, none⟩ = false := hqf 2
      have HR : Hid (∀ W, Below wr.heap.size wr W → RowP W (w.heap.size + 3) v xs) := fun W hb => HG.out.r.keep hb
      have hvs : Hid (∀ g, v.ownBlock = some g → w.heap.size + 3 ≤ g) := fun g q => (HG.out.r.lt g q).1
      have hqa : ∀ a, (wr.alloc a).cell? ⟨w.heap.size + 1 + 1, 2, none⟩ = some v := fun a => (World.cell?_alloc_past _ _ _ hql).trans hq2
      have hqb : ∀ a b, ((wr.alloc a).alloc b).cell? ⟨w.heap.size + 1 + 1, 2, none⟩ = some v := fun a b => (World.cell?_alloc_past _ _ _ (by simp; omega)).trans (hqa a)
      clear hq hqf
      have hw : IntKind.i64.wrap ((i : Int) + 1) = (i : Int) + 1 := by rw [IntKind.wrap_i64]; omega
      have hj0 : (0 : Int) ≤ (i : Int) + 1 := by omega
      have hj1 : (i : Int) + 1 ≤ 8 := by omega
      have hj2 : (i : Int) ≤ (i : Int) + 1 := by omega
      go_wp2
      go_region_law (refine step_append_lies _ rfl (.tmp 16) (.tmp 23) 27 rfl (w.heap.size + 3) 46 i0 (.pointer none) 1 8 Try.underlying27 hi0 hz0 hs0 hb0 rfl (by decide) v i (xs.map ptr) (by simp [Act.eval, Act.put]) (by rw [← hl]; exact HR.out _ (by with_reducible (repeat' first | assumption | exact Below.refl _ _ | refine Below.drew ?_ | refine bdrewN ?_ _ | refine Below.setCell ?_ (by first | exact Nat.le_refl _ | (simp; done) | (simp; omega) | omega) _ | refine Below.alloc ?_ (by first | exact Nat.le_refl _ | (simp; done) | (simp; omega) | omega) _))) ⟨wr.heap.size + 1, 0, none⟩ 1 1 [ptr wr.heap.size] (by simp [Act.eval, Act.put]) rfl (RowP.src (show Own _ _ #[.pointer (some ⟨wr.heap.size, 0, none⟩)] from by with_reducible (repeat' first | assumption | refine Own.drew ?_ | refine Own.drewN ?_ _ | (refine Own.at ?_; first | rfl | (simp; done)) | refine Own.past ?_ _))) (ptr_one [wr.heap.size]) (by decide) (by unfold maxLen; omega) (by omega) (by simp; omega) _ rfl (fun g cap w2 k1 k2 k3 k4 => ?_); obtain ⟨o2, G2, B2⟩ := Bg.step HG.out hl k1 k2 k3 (by with_reducible (repeat' first | assumption | exact Below.refl _ _ | refine Below.drew ?_ | refine bdrewN ?_ _ | refine Below.setCell ?_ (by first | exact Nat.le_refl _ | (simp; done) | (simp; omega) | omega) _ | refine Below.alloc ?_ (by first | exact Nat.le_refl _ | (simp; done) | (simp; omega) | omega) _)) (two_new wr.drew _ _ _ _); have co2 := o2.cell; have fo2 := o2.fro; have lo2 := o2.lt; clear k1 k2 k3)
      all_goals go_wp2
      all_goals exact ⟨⟨i + 1, _, _, by go_num, by omega, by simp [hl], G2, (hB.trans (B2.mono (Nat.le_refl _))).setCell (by show w.heap.size ≤ w.heap.size + 1 + 1; omega) _⟩, by simp [intOf]; omega⟩
    · have hi8 : i = 8 := by omega
      subst hi8
      obtain ⟨k, k1, k2, k3⟩ := HG.out.bw hl
      go_wp2
      go_ret
      exact ⟨k, by rw [k1]; rfl, k3, hB⟩
end Go.Proofs.Ytaafpfjmnhmalaa
