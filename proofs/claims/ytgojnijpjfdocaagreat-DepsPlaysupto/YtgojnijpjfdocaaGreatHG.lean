/- The law's given and spoilt: a list of its own; it is written over, its room too. -/
import Derived.Test.YtgojnijpjfdocaaGreatGW
namespace Go.Proofs.YtgojnijpjfdocaaGreat
open Go.RowKit Go.Shelf
set_option linter.all false
/-- The first i references lie in a block of one's own, with room for two more. -/
def Con (w : World) (g : Nat) (l : List Rf) (i : Nat) : Prop := ∃ A, Own w g A ∧ A.size = (l.length + 2) * 5 ∧ ∀ k x, k < i → l[k]? = some x → ∀ j u, (Rf.cs x)[j]? = some u → A[k * 5 + j]? = some u
theorem Con.keep {w w' : World} {g : Nat} {l : List Rf} {i : Nat} (h : Con w g l i) (hb : Below w.heap.size w w') : Con w' g l i := by
  obtain ⟨A, h1, h2⟩ := h
  exact ⟨A, h1.keep hb, h2⟩
theorem Con.vf {w : World} {g : Nat} {l : List Rf} (h : Con w g l l.length) (hl : l.length ≤ 1048576) : VF w (.slice (some ⟨g, 0, none⟩) l.length (l.length + 2)) l := by
  obtain ⟨A, h1, h2, h3⟩ := h
  have hlt := h1.lt
  have hcell : ∀ i x, l[i]? = some x → ∀ j u, (Rf.cs x)[j]? = some u → w.cell? ⟨g, 0 + i * 5 + j, none⟩ = some u := fun i x hi j u hu => by
    have hi' : i < l.length := (List.getElem?_eq_some_iff.1 hi).1
    have q := h3 i x hi' hi j u hu
    rw [← h1.cell] at q
    rwa [Nat.zero_add]
  exact ⟨some ⟨g, 0, none⟩, l.length, l.length + 2, rfl, rfl, by omega, by omega, fun _ => ⟨g, 0, rfl, hlt, hcell⟩⟩
theorem Con.own {w : World} {g : Nat} {l : List Rf} {i : Nat} (h : Con w g l i) : OwnS w g ((l.length + 2) * 5) := by
  obtain ⟨A, h1, h2, _⟩ := h
  exact ⟨A, h1, h2⟩
theorem put5 (A : Array Value) (i : Nat) (f : Rf) (hs : i * 5 + 5 ≤ A.size) (j : Nat) (u : Value) (hu : (Rf.cs f)[j]? = some u) : (((((A.setIfInBounds (i * 5) (.bool f.m)).setIfInBounds (i * 5 + 1) (.int .i64 f.t)).setIfInBounds (i * 5 + 2) (.int .i64 f.l)).setIfInBounds (i * 5 + 3) (.int .i64 f.b)).setIfInBounds (i * 5 + 4) (.int .i64 f.q))[i * 5 + j]? = some u := by
  match j, hu with
  | 0, hu =>
    have e : u = .bool f.m := by simpa [Rf.cs] using hu.symm
    subst e
    rw [Array.getElem?_setIfInBounds_ne (by omega)]
    rw [Array.getElem?_setIfInBounds_ne (by omega)]
    rw [Array.getElem?_setIfInBounds_ne (by omega)]
    rw [Array.getElem?_setIfInBounds_ne (by omega)]
    exact Array.getElem?_setIfInBounds_self_of_lt (by omega)
  | 1, hu =>
    have e : u = .int .i64 f.t := by simpa [Rf.cs] using hu.symm
    subst e
    rw [Array.getElem?_setIfInBounds_ne (by omega)]
    rw [Array.getElem?_setIfInBounds_ne (by omega)]
    rw [Array.getElem?_setIfInBounds_ne (by omega)]
    exact Array.getElem?_setIfInBounds_self_of_lt (by simp only [Array.size_setIfInBounds]; omega)
  | 2, hu =>
    have e : u = .int .i64 f.l := by simpa [Rf.cs] using hu.symm
    subst e
    rw [Array.getElem?_setIfInBounds_ne (by omega)]
    rw [Array.getElem?_setIfInBounds_ne (by omega)]
    exact Array.getElem?_setIfInBounds_self_of_lt (by simp only [Array.size_setIfInBounds]; omega)
  | 3, hu =>
    have e : u = .int .i64 f.b := by simpa [Rf.cs] using hu.symm
    subst e
    rw [Array.getElem?_setIfInBounds_ne (by omega)]
    exact Array.getElem?_setIfInBounds_self_of_lt (by simp only [Array.size_setIfInBounds]; omega)
  | 4, hu =>
    have e : u = .int .i64 f.q := by simpa [Rf.cs] using hu.symm
    subst e
    exact Array.getElem?_setIfInBounds_self_of_lt (by simp only [Array.size_setIfInBounds]; omega)
  | j + 5, hu => simp [Rf.cs] at hu
theorem Con.made (W : World) (n : Nat) (l : List Rf) (hn : n = l.length) : Con (W.alloc (.cells (madeCells #[.bool false, .int .i64 0, .int .i64 0, .int .i64 0, .int .i64 0] ((n + 2) * 5)) 50)) W.heap.size l 0 := by
  refine ⟨_, Own.new _ _ _, ?_, fun k x hk => absurd hk (Nat.not_lt_zero _)⟩
  rw [← hn]
  unfold madeCells
  rw [Array.size_map, Array.size_range]
theorem Con.put {w : World} {g : Nat} {l : List Rf} {i : Nat} {f : Rf} (h : Con w g l i) (hf : l[i]? = some f) : Con (((((w.setCell ⟨g, i * 5, none⟩ (.bool f.m)).setCell ⟨g, i * 5 + 1, none⟩ (.int .i64 f.t)).setCell ⟨g, i * 5 + 2, none⟩ (.int .i64 f.l)).setCell ⟨g, i * 5 + 3, none⟩ (.int .i64 f.b)).setCell ⟨g, i * 5 + 4, none⟩ (.int .i64 f.q)) g l (i + 1) := by
  obtain ⟨A, hO, hsz, hc⟩ := h
  have hi : i < l.length := (List.getElem?_eq_some_iff.1 hf).1
  have hs : i * 5 + 5 ≤ A.size := by rw [hsz]; omega
  refine ⟨_, (own_put' (k := i * 5 + 4) (x := .int .i64 f.q) (own_put' (k := i * 5 + 3) (x := .int .i64 f.b) (own_put' (k := i * 5 + 2) (x := .int .i64 f.l) (own_put' (k := i * 5 + 1) (x := .int .i64 f.t) (own_put' (k := i * 5) (x := .bool f.m) hO (by omega)) (by simp only [Array.size_setIfInBounds]; omega)) (by simp only [Array.size_setIfInBounds]; omega)) (by simp only [Array.size_setIfInBounds]; omega)) (by simp only [Array.size_setIfInBounds]; omega)), ?_, fun k x hk hx j u hu => ?_⟩
  · simp only [Array.size_setIfInBounds]
    exact hsz
  · by_cases e : k = i
    · subst e
      have hx2 : f = x := Option.some.inj (hf.symm.trans hx)
      subst hx2
      exact put5 A k f hs j u hu
    · have hj : j < 5 := (List.getElem?_eq_some_iff.1 hu).1
      have h0 := hc k x (by omega) hx j u hu
      rw [Array.getElem?_setIfInBounds_ne (by omega), Array.getElem?_setIfInBounds_ne (by omega), Array.getElem?_setIfInBounds_ne (by omega), Array.getElem?_setIfInBounds_ne (by omega), Array.getElem?_setIfInBounds_ne (by omega)]
      exact h0
theorem infoRg : (Tryz.prog.info? 50).map (fun i => (i.zero, i.size, i.bytes)) = some (some (.agg #[.bool false, .int .i64 0, .int .i64 0, .int .i64 0, .int .i64 0]), 5, 40) := by kernel_rfl
set_option maxRecDepth 100000 in
set_option maxHeartbeats 4000000 in
theorem given_any (w : World) (v : Value) (l : List Rf) (hv : VF w v l) (hl : l.length ≤ 1048576) : Calls Tryz.prog 10 #[v] w fun e w' => e = .returned (.slice (some ⟨w.heap.size, 0, none⟩) l.length (l.length + 2)) ∧ Con w' w.heap.size l l.length ∧ Below w.heap.size w w' := by
  have mixed : Tryz.prog.follows .mixedOrders = true := by kernel_rfl
  obtain ⟨p, n, cap, rfl, hn, hcap, hmx, hp⟩ := hv
  have hnz : n ≤ 1048576 := by omega
  have hmk : ∀ w : World, (Instr.makeSlice 30 (.int .i64 (n : Int)) (.int .i64 ((n : Int) + 2))).run Tryz.prog w = .ok (.slice (some ⟨w.heap.size, 0, none⟩) n (n + 2)) (w.alloc (.cells (madeCells #[.bool false, .int .i64 0, .int .i64 0, .int .i64 0, .int .i64 0] ((n + 2) * 5)) 50)) := fun w => by
    obtain ⟨i0, hi, hz0, hz1, hz2⟩ := info_parts infoRg
    have h := run_make (P := Tryz.prog) w 30 50 i0 _ Tryz.underlying30 hi hz0 .i64 .i64 n ((n : Int) + 2) (by omega) (by omega) (by rw [hz2]; omega) (by omega)
    rw [hz1] at h
    have e1 : ((n : Int)).toNat = n := by omega
    have e2 : ((n : Int) + 2).toNat = n + 2 := by omega
    rw [e1, e2] at h
    exact h
  have HE : Hid (∀ i, i < n → ∃ b o x, p = some ⟨b, o, none⟩ ∧ b < w.heap.size ∧ l[i]? = some x ∧ ∀ j u, (Rf.cs x)[j]? = some u → w.cell? ⟨b, o + i * 5 + j, none⟩ = some u) := (show _ from fun i hi => by
    obtain ⟨b, o, rfl, hb, hcl⟩ := hp (by omega)
    obtain ⟨x, hx⟩ : ∃ x, l[i]? = some x := ⟨_, List.getElem?_eq_getElem (by omega)⟩
    exact ⟨b, o, x, rfl, hb, hx, hcl i x hx⟩)
  have HN : Hid (n = l.length) := hn
  rw [← hn]
  clear hn hp hl
  go_enter Tryz.func10, Tryz.ntmps10
  go_wp2
  have HC0 : Hid (Con (w.alloc (.cells (madeCells #[.bool false, .int .i64 0, .int .i64 0, .int .i64 0, .int .i64 0] ((n + 2) * 5)) 50)) w.heap.size l 0) := Con.made w n l HN.out
  go_loopw [4] (fun u4 w' => ∃ i : Nat, u4 = .int .i64 i ∧ i ≤ n ∧ Hid (Con w' w.heap.size l i) ∧ Below w.heap.size w w') (fun u4 _ => n - (intOf u4).toNat)
  case atStart => exact ⟨0, rfl, by omega, (show Con _ _ _ _ from HC0.out.keep (by with_reducible (repeat' first | assumption | exact Below.refl _ _ | refine Below.drew ?_ | refine bdrewN ?_ _ | refine Below.setCell ?_ (by first | exact Nat.le_refl _ | (simp; done) | (simp; omega) | omega) _ | refine Below.alloc ?_ (by first | exact Nat.le_refl _ | (simp; done) | (simp; omega) | omega) _))), by with_reducible (repeat' first | assumption | exact Below.refl _ _ | refine Below.drew ?_ | refine bdrewN ?_ _ | refine Below.setCell ?_ (by first | exact Nat.le_refl _ | (simp; done) | (simp; omega) | omega) _ | refine Below.alloc ?_ (by first | exact Nat.le_refl _ | (simp; done) | (simp; omega) | omega) _)⟩
  case round =>
    clear HC0
    obtain ⟨i, rfl, hi, HC, hB⟩ := hrel
    have zB := hB.size
    by_cases hlt : i < n
    · have hlt' : (i : Int) < n := by omega
      have hlt2 : (i : Int) < (n : Int) + 2 := by omega
      obtain ⟨b, o, f, rfl, hb, hf, hcl⟩ := HE.out i hlt
      have Hf : Hid (l[i]? = some f) := hf
      have y0 : wr.cell? ⟨b, o + i * 5, none⟩ = some (.bool f.m) := (hB.cell (p := ⟨b, o + i * 5, none⟩) hb).trans (hcl 0 _ rfl)
      have y1 : wr.cell? ⟨b, o + i * 5 + 1, none⟩ = some (.int .i64 f.t) := (hB.cell (p := ⟨b, o + i * 5 + 1, none⟩) hb).trans (hcl 1 _ rfl)
      have y2 : wr.cell? ⟨b, o + i * 5 + 2, none⟩ = some (.int .i64 f.l) := (hB.cell (p := ⟨b, o + i * 5 + 2, none⟩) hb).trans (hcl 2 _ rfl)
      have y3 : wr.cell? ⟨b, o + i * 5 + 3, none⟩ = some (.int .i64 f.b) := (hB.cell (p := ⟨b, o + i * 5 + 3, none⟩) hb).trans (hcl 3 _ rfl)
      have y4 : wr.cell? ⟨b, o + i * 5 + 4, none⟩ = some (.int .i64 f.q) := (hB.cell (p := ⟨b, o + i * 5 + 4, none⟩) hb).trans (hcl 4 _ rfl)
      have hbr : b < wr.heap.size := by omega
      obtain ⟨A, hO, hsz, hc⟩ := HC.out
      have hsz' : A.size = (n + 2) * 5 := by rw [hsz, HN.out]
      obtain ⟨a0, ha0⟩ : ∃ a, wr.cell? ⟨w.heap.size, i * 5, none⟩ = some a := ⟨_, (hO.cell _).trans (Array.getElem?_eq_getElem (by omega))⟩
      have hf0 : wr.frozen? ⟨w.heap.size, i * 5, none⟩ = false := hO.fro _
      obtain ⟨a1, ha1⟩ : ∃ a, wr.cell? ⟨w.heap.size, i * 5 + 1, none⟩ = some a := ⟨_, (hO.cell _).trans (Array.getElem?_eq_getElem (by omega))⟩
      have hf1 : wr.frozen? ⟨w.heap.size, i * 5 + 1, none⟩ = false := hO.fro _
      obtain ⟨a2, ha2⟩ : ∃ a, wr.cell? ⟨w.heap.size, i * 5 + 2, none⟩ = some a := ⟨_, (hO.cell _).trans (Array.getElem?_eq_getElem (by omega))⟩
      have hf2 : wr.frozen? ⟨w.heap.size, i * 5 + 2, none⟩ = false := hO.fro _
      obtain ⟨a3, ha3⟩ : ∃ a, wr.cell? ⟨w.heap.size, i * 5 + 3, none⟩ = some a := ⟨_, (hO.cell _).trans (Array.getElem?_eq_getElem (by omega))⟩
      have hf3 : wr.frozen? ⟨w.heap.size, i * 5 + 3, none⟩ = false := hO.fro _
      obtain ⟨a4, ha4⟩ : ∃ a, wr.cell? ⟨w.heap.size, i * 5 + 4, none⟩ = some a := ⟨_, (hO.cell _).trans (Array.getElem?_eq_getElem (by omega))⟩
      have hf4 : wr.frozen? ⟨w.heap.size, i * 5 + 4, none⟩ = false := hO.fro _
      have lg := hO.lt
      have HC2 : Hid (Con (((((wr.setCell ⟨w.heap.size, i * 5, none⟩ (.bool f.m)).setCell ⟨w.heap.size, i * 5 + 1, none⟩ (.int .i64 f.t)).setCell ⟨w.heap.size, i * 5 + 2, none⟩ (.int .i64 f.l)).setCell ⟨w.heap.size, i * 5 + 3, none⟩ (.int .i64 f.b)).setCell ⟨w.heap.size, i * 5 + 4, none⟩ (.int .i64 f.q)) w.heap.size l (i + 1)) := HC.out.put hf
      clear hO hsz hsz' hc hcl hf HC
      go_wp2
      exact ⟨⟨i + 1, by go_num, by omega, (show Con _ _ _ _ from HC2.out.keep (by with_reducible (repeat' first | assumption | exact Below.refl _ _ | refine Below.drew ?_ | refine bdrewN ?_ _ | refine Below.setCell ?_ (by first | exact Nat.le_refl _ | (simp; done) | (simp; omega) | omega) _ | refine Below.alloc ?_ (by first | exact Nat.le_refl _ | (simp; done) | (simp; omega) | omega) _))), by with_reducible (repeat' first | assumption | exact Below.refl _ _ | refine Below.drew ?_ | refine bdrewN ?_ _ | refine Below.setCell ?_ (by first | exact Nat.le_refl _ | (simp; done) | (simp; omega) | omega) _ | refine Below.alloc ?_ (by first | exact Nat.le_refl _ | (simp; done) | (simp; omega) | omega) _)⟩, by simp [intOf] <;> omega⟩
    · have hlt' : ¬ (i : Int) < n := by omega
      have hin : i = n := by omega
      have HCn : Hid (Con wr w.heap.size l l.length) := (show Con _ _ _ _ from by have q := HC.out; rw [hin, HN.out] at q; exact q)
      clear HC
      go_wp2
      go_ret
      exact ⟨rfl, by rw [HN.out]; exact HCn.out, hB⟩
set_option maxRecDepth 100000 in
set_option maxHeartbeats 4000000 in
theorem spoilt_any (w : World) (g n : Nat) (h : OwnS w g ((n + 2) * 5)) (hn : n ≤ 1048576) : Calls Tryz.prog 13 #[.slice (some ⟨g, 0, none⟩) n (n + 2)] w fun e w' => e = .returned (.tuple #[]) ∧ Mut (fun b => b = g) w w' := by
  have mixed : Tryz.prog.follows .mixedOrders = true := by kernel_rfl
  have HO0 : Hid (OwnS w g ((n + 2) * 5)) := h
  clear h
  obtain ⟨m, hm⟩ : ∃ m, m = n + 2 := ⟨_, rfl⟩
  rw [← hm] at HO0
  rw [← hm]
  have hmn : n ≤ m := by omega
  have hmz : m ≤ 1048578 := by omega
  clear hm
  go_enter Tryz.func13, Tryz.ntmps13
  go_wp2
  go_loopw [3] (fun u3 w' => ∃ i : Nat, u3 = .int .i64 i ∧ i ≤ m ∧ Hid (OwnS w' g (m * 5)) ∧ Hid (Mut (fun b => b = g) w w')) (fun u3 _ => m - (intOf u3).toNat)
  case atStart => exact ⟨0, rfl, by omega, (show OwnS _ _ _ from by with_reducible (repeat' first | exact HO0.out | refine OwnS.drew ?_)), (show Mut _ _ _ from by with_reducible (repeat' first | exact Mut.refl _ _ | refine Mut.drew ?_))⟩
  case round =>
    clear HO0
    obtain ⟨i, rfl, hi, HO, HM⟩ := hrel
    by_cases hlt : i < m
    · have hlt' : (i : Int) < m := by omega
      obtain ⟨A, hO, hsz⟩ := HO.out
      obtain ⟨a0, ha0⟩ : ∃ a, wr.cell? ⟨g, i * 5, none⟩ = some a := ⟨_, (hO.cell _).trans (Array.getElem?_eq_getElem (by omega))⟩
      have hf0 : wr.frozen? ⟨g, i * 5, none⟩ = false := hO.fro _
      obtain ⟨a1, ha1⟩ : ∃ a, wr.cell? ⟨g, i * 5 + 1, none⟩ = some a := ⟨_, (hO.cell _).trans (Array.getElem?_eq_getElem (by omega))⟩
      have hf1 : wr.frozen? ⟨g, i * 5 + 1, none⟩ = false := hO.fro _
      obtain ⟨a2, ha2⟩ : ∃ a, wr.cell? ⟨g, i * 5 + 2, none⟩ = some a := ⟨_, (hO.cell _).trans (Array.getElem?_eq_getElem (by omega))⟩
      have hf2 : wr.frozen? ⟨g, i * 5 + 2, none⟩ = false := hO.fro _
      obtain ⟨a3, ha3⟩ : ∃ a, wr.cell? ⟨g, i * 5 + 3, none⟩ = some a := ⟨_, (hO.cell _).trans (Array.getElem?_eq_getElem (by omega))⟩
      have hf3 : wr.frozen? ⟨g, i * 5 + 3, none⟩ = false := hO.fro _
      obtain ⟨a4, ha4⟩ : ∃ a, wr.cell? ⟨g, i * 5 + 4, none⟩ = some a := ⟨_, (hO.cell _).trans (Array.getElem?_eq_getElem (by omega))⟩
      have hf4 : wr.frozen? ⟨g, i * 5 + 4, none⟩ = false := hO.fro _
      have lg := hO.lt
      clear hO hsz
      go_wp2
      exact ⟨⟨i + 1, by go_num, by omega, (show OwnS _ _ _ from by with_reducible (repeat' first | exact HO.out | refine OwnS.drew ?_ | refine OwnS.put ?_ (by first | omega | (simp; omega)) _)), (show Mut _ _ _ from by with_reducible (repeat' first | exact HM.out | refine Mut.drew ?_ | refine Mut.set (S := fun b => b = g) ?_ (.inl rfl) _))⟩, by simp [intOf] <;> omega⟩
    · have hlt' : ¬ (i : Int) < m := by omega
      go_wp2
      go_end0
      exact ⟨rfl, by with_reducible (repeat' first | exact HM.out | refine Mut.drew ?_)⟩
end Go.Proofs.YtgojnijpjfdocaaGreat
