/- deps.Set where it is refused: nothing is changed. -/
import Derived.Test.YtgojnijpjfdocaaGreatEW
namespace Go.Proofs.YtgojnijpjfdocaaGreat
open Go.RowKit Go.Shelf
set_option linter.all false
/-- References that came in. -/
def VF (w : World) (v : Value) (l : List Rf) : Prop := ∃ p n cap, v = .slice p n cap ∧ n = l.length ∧ n ≤ cap ∧ cap ≤ 9223372036854775807 ∧ (0 < n → ∃ b o, p = some ⟨b, o, none⟩ ∧ b < w.heap.size ∧ ∀ i x, l[i]? = some x → ∀ j u, (Rf.cs x)[j]? = some u → w.cell? ⟨b, o + i * 5 + j, none⟩ = some u)
set_option maxRecDepth 100000 in
theorem dset_addr (w : World) (N : Nat) (v : Value) (r c : Int) (hc : mayC r c = false) : Calls Tryz.prog 11 #[.pointer (some ⟨N, 0, none⟩), .agg #[.int .i64 r, .int .i64 c], v] w fun e w' => e = .returned (.int .i64 3) ∧ Below w.heap.size w w' := by
  have HC : Hid (∀ W, Calls Tryz.prog 24 #[.agg #[.int .i64 r, .int .i64 c]] W fun e w' => e = .returned (.bool false) ∧ Below W.heap.size W w') := (show _ from fun W => by rw [← hc]; exact may_any r c W)
  clear hc
  go_enter Tryz.func11, Tryz.ntmps11
  go_wp2_with (go_at_call 24; refine (HC.out _).mono ?_; rintro e wa ⟨rfl, hba⟩; have hBa : Below w.heap.size w wa := bup (by with_reducible (repeat' first | assumption | exact Below.refl _ _ | refine Below.drew ?_ | refine bdrewN ?_ _ | refine Below.setCell ?_ (by first | exact Nat.le_refl _ | (simp; done) | (simp; omega) | omega) _ | refine Below.alloc ?_ (by first | exact Nat.le_refl _ | (simp; done) | (simp; omega) | omega) _)) hba; clear hba)
  go_ret
  exact ⟨rfl, hBa⟩
set_option maxRecDepth 100000 in
set_option maxHeartbeats 4000000 in
theorem dset_arg (w : World) (N : Nat) (v : Value) (l : List Rf) (r c : Int) (hv : VF w v l) (hc : mayC r c = true) (hl : ∃ f ∈ l, mayF f = false) : Calls Tryz.prog 11 #[.pointer (some ⟨N, 0, none⟩), .agg #[.int .i64 r, .int .i64 c], v] w fun e w' => e = .returned (.int .i64 1) ∧ Below w.heap.size w w' := by
  have HC : Hid (∀ W, Calls Tryz.prog 24 #[.agg #[.int .i64 r, .int .i64 c]] W fun e w' => e = .returned (.bool true) ∧ Below W.heap.size W w') := (show _ from fun W => by rw [← hc]; exact may_any r c W)
  obtain ⟨p, n, cap, rfl, hn, hcap, hmx, hp⟩ := hv
  have HE : Hid (∀ i, i < n → ∃ b o x, p = some ⟨b, o, none⟩ ∧ b < w.heap.size ∧ l[i]? = some x ∧ ∀ j u, (Rf.cs x)[j]? = some u → w.cell? ⟨b, o + i * 5 + j, none⟩ = some u) := (show _ from fun i hi => by
    obtain ⟨b, o, rfl, hb, hcl⟩ := hp (by omega)
    obtain ⟨x, hx⟩ : ∃ x, l[i]? = some x := ⟨_, List.getElem?_eq_getElem (by omega)⟩
    exact ⟨b, o, x, rfl, hb, hx, hcl i x hx⟩)
  have HN : Hid (n = l.length) := hn
  have HBad : Hid (∃ f ∈ l, mayF f = false) := hl
  clear hc hp hn hl
  go_enter Tryz.func11, Tryz.ntmps11
  go_wp2_with (go_at_call 24; refine (HC.out _).mono ?_; rintro e wa ⟨rfl, hba⟩; have hBa : Below w.heap.size w wa := bup (by with_reducible (repeat' first | assumption | exact Below.refl _ _ | refine Below.drew ?_ | refine bdrewN ?_ _ | refine Below.setCell ?_ (by first | exact Nat.le_refl _ | (simp; done) | (simp; omega) | omega) _ | refine Below.alloc ?_ (by first | exact Nat.le_refl _ | (simp; done) | (simp; omega) | omega) _)) hba; clear hba)
  go_loopw [18] (fun u w' => ∃ i : Nat, u = .int .i64 i ∧ i ≤ n ∧ Hid (∀ j x, j < i → l[j]? = some x → mayF x = true) ∧ Below w.heap.size w w') (fun u _ => n - (intOf u).toNat)
  case atStart => exact ⟨0, rfl, by omega, (show Hid _ from fun j x hj => absurd hj (Nat.not_lt_zero _)), by with_reducible (repeat' first | assumption | exact Below.refl _ _ | refine Below.drew ?_ | refine bdrewN ?_ _ | refine Below.setCell ?_ (by first | exact Nat.le_refl _ | (simp; done) | (simp; omega) | omega) _ | refine Below.alloc ?_ (by first | exact Nat.le_refl _ | (simp; done) | (simp; omega) | omega) _)⟩
  case round =>
    obtain ⟨i, rfl, hi, HL, hB⟩ := hrel
    have zB := hB.size
    by_cases hlt : i < n
    · have hlt' : (i : Int) < n := by omega
      obtain ⟨b, o, f, rfl, hb, hf, hcl⟩ := HE.out i hlt
      have y0 : wr.cell? ⟨b, o + i * 5, none⟩ = some (.bool f.m) := (hB.cell (p := ⟨b, o + i * 5, none⟩) hb).trans (hcl 0 _ rfl)
      have y1 : wr.cell? ⟨b, o + i * 5 + 1, none⟩ = some (.int .i64 f.t) := (hB.cell (p := ⟨b, o + i * 5 + 1, none⟩) hb).trans (hcl 1 _ rfl)
      have y2 : wr.cell? ⟨b, o + i * 5 + 2, none⟩ = some (.int .i64 f.l) := (hB.cell (p := ⟨b, o + i * 5 + 2, none⟩) hb).trans (hcl 2 _ rfl)
      have y3 : wr.cell? ⟨b, o + i * 5 + 3, none⟩ = some (.int .i64 f.b) := (hB.cell (p := ⟨b, o + i * 5 + 3, none⟩) hb).trans (hcl 3 _ rfl)
      have y4 : wr.cell? ⟨b, o + i * 5 + 4, none⟩ = some (.int .i64 f.q) := (hB.cell (p := ⟨b, o + i * 5 + 4, none⟩) hb).trans (hcl 4 _ rfl)
      have HM0 := fun W => mayf_any f W
      cases hm : mayF f
      · rw [hm] at HM0
        have HM : Hid (∀ W, Calls Tryz.prog 25 #[.agg #[.bool f.m, .int .i64 f.t, .int .i64 f.l, .int .i64 f.b, .int .i64 f.q]] W fun e w' => e = .returned (.bool false) ∧ Below W.heap.size W w') := HM0
        clear HM0 hm hf hcl
        go_wp2_with (go_at_call 25; refine (HM.out _).mono ?_; rintro e wb ⟨rfl, hbb⟩; have hBb : Below w.heap.size w wb := bup (by with_reducible (repeat' first | assumption | exact Below.refl _ _ | refine Below.drew ?_ | refine bdrewN ?_ _ | refine Below.setCell ?_ (by first | exact Nat.le_refl _ | (simp; done) | (simp; omega) | omega) _ | refine Below.alloc ?_ (by first | exact Nat.le_refl _ | (simp; done) | (simp; omega) | omega) _)) hbb; clear hbb)
        go_ret
        exact ⟨rfl, hBb⟩
      · rw [hm] at HM0
        have HM : Hid (∀ W, Calls Tryz.prog 25 #[.agg #[.bool f.m, .int .i64 f.t, .int .i64 f.l, .int .i64 f.b, .int .i64 f.q]] W fun e w' => e = .returned (.bool true) ∧ Below W.heap.size W w') := HM0
        have HL2 : Hid (∀ j x, j < i + 1 → l[j]? = some x → mayF x = true) := (show _ from fun j x hj hx => by
          by_cases e : j = i
          · subst e; rw [hf] at hx; injection hx with hx; subst hx; exact hm
          · exact HL.out j x (by omega) hx)
        clear HM0 hm hf hcl
        go_wp2_with (go_at_call 25; refine (HM.out _).mono ?_; rintro e wb ⟨rfl, hbb⟩; have hBb : Below w.heap.size w wb := bup (by with_reducible (repeat' first | assumption | exact Below.refl _ _ | refine Below.drew ?_ | refine bdrewN ?_ _ | refine Below.setCell ?_ (by first | exact Nat.le_refl _ | (simp; done) | (simp; omega) | omega) _ | refine Below.alloc ?_ (by first | exact Nat.le_refl _ | (simp; done) | (simp; omega) | omega) _)) hbb; clear hbb)
        exact ⟨⟨i + 1, by go_num, by omega, HL2, hBb⟩, by simp [intOf] <;> omega⟩
    · exfalso
      obtain ⟨f, hf, hm⟩ := HBad.out
      obtain ⟨j, hj⟩ := List.getElem?_of_mem hf
      have := (List.getElem?_eq_some_iff.1 hj).1
      have := HL.out j f (by have := HN.out; omega) hj
      rw [hm] at this
      cases this
end Go.Proofs.YtgojnijpjfdocaaGreat
