/- StampsNewer's list at a block that is known: its cells. No function's text is walked here. -/
import Derived.Test.YtmajbophgdimlaaNC
import Derived.Deep.RegionHeld3
namespace Go.Proofs.Ytmajbophgdimlaa
open Go.RowKit
set_option linter.all false
theorem row_at {W : World} {b0 g n cap : Nat} {l : List We} (h : RowW W b0 (.slice (some ⟨g, 0, none⟩) n cap) l) {p : Nat} {f : We} (hf : l[p]? = some f) (j : Nat) (u : Value) (hj : (We.cs f)[j]? = some u) : W.cell? ⟨g, p * 4 + j, none⟩ = some u := by
  rcases h.two with ⟨e, _⟩ | ⟨g', cap', cur, e, h1, h2, h3, h4, h5, h6, h7⟩
  · cases e
  · simp only [Value.slice.injEq, Option.some.injEq, Addr.mk.injEq, and_true] at e
    obtain ⟨rfl, rfl, rfl⟩ := e
    exact row_cellsG We.len h3 h7 p f j u hf hj
theorem row_fro {W : World} {b0 g n cap : Nat} {l : List We} (h : RowW W b0 (.slice (some ⟨g, 0, none⟩) n cap) l) (o : Nat) : W.frozen? ⟨g, o, none⟩ = false := by
  rcases h.two with ⟨e, _⟩ | ⟨g', cap', cur, e, h1, h2, h3, h4, h5, h6, h7⟩
  · cases e
  · simp only [Value.slice.injEq, Option.some.injEq, Addr.mk.injEq, and_true] at e
    obtain ⟨rfl, rfl, rfl⟩ := e
    exact frozen_of_row W g o cur _ h3
theorem row_some {W : World} {b0 : Nat} {v : Value} {l : List We} {x : We} (h : RowW W b0 v (l ++ [x])) : ∃ g cap, v = .slice (some ⟨g, 0, none⟩) (l.length + 1) cap ∧ l.length + 1 ≤ cap ∧ cap ≤ 9223372036854775807 := by
  rcases h.two with ⟨_, e⟩ | ⟨g', cap', cur, e, h1, h2, h3, h4, h5, h6, h7⟩
  · simp at e
  · rw [List.length_append, List.length_cons, List.length_nil] at e h4
    exact ⟨g', cap', e, h4, by unfold maxLen at h5; omega⟩
theorem row_q {W : World} {b0 : Nat} {q : Option Addr} {n cap : Nat} {l : List We} (h : RowW W b0 (.slice q n cap) l) : n = l.length ∧ n ≤ cap ∧ cap ≤ 9223372036854775807 ∧ (0 < n → ∃ g, q = some ⟨g, 0, none⟩ ∧ g < W.heap.size ∧ ∀ (k : Nat) (e : We), l[k]? = some e → ∀ j u, (We.cs e)[j]? = some u → W.cell? ⟨g, k * 4 + j, none⟩ = some u) := by
  obtain ⟨q', cap', e, h1, h2, h3⟩ := RowG.view We.len h
  simp only [Value.slice.injEq] at e
  obtain ⟨rfl, rfl, rfl⟩ := e
  exact ⟨rfl, h1, h2, h3⟩
theorem some_in {l : List We} {x y : Int} (h : ¬ ∀ e ∈ l, ¬ (e.r = x ∧ e.c = y)) : 0 < l.length := by
  cases l with
  | nil => exact absurd (fun e he => by cases he) h
  | cons a l => simp
theorem dec_newer {S : St} {T V : Int → Int → Int} {l : List We} {i : Int} (h : Wn S T V l i) {a b : Nat} {e f : We} (he : l[a]? = some e) (hf : l[b]? = some f) : decide (sen S f.r f.c < chg S e.r e.c) = decide (f.v < e.t) := h.newer (List.mem_of_getElem? he) (List.mem_of_getElem? hf)
/-- The list's thing of a cell that is dropped: nothing any more. -/
theorem nx_zero {b0 : Nat} {w W : World} {N : Nat} {most last turns : Int} {S : St} {i : Nat} {L : List Cl} {g n cap : Nat} {l : List We} {xb : Nat} {A : Array Value} (h : Nx b0 W N most last turns S i L (.slice (some ⟨g, 0, none⟩) n cap) l xb A) (hb : Below b0 w W) {p : Nat} {f : We} (hf : l[p]? = some f) :
    Nx b0 ((((W.setCell ⟨g, p * 4, none⟩ (.int .i64 0)).setCell ⟨g, p * 4 + 1, none⟩ (.int .i64 0)).setCell ⟨g, p * 4 + 2, none⟩ (.int .i64 0)).setCell ⟨g, p * 4 + 3, none⟩ (.int .i64 0)) N most last turns S i L (.slice (some ⟨g, 0, none⟩) n cap) (l.set p ⟨0, 0, 0, 0⟩) xb A ∧
    Below b0 w ((((W.setCell ⟨g, p * 4, none⟩ (.int .i64 0)).setCell ⟨g, p * 4 + 1, none⟩ (.int .i64 0)).setCell ⟨g, p * 4 + 2, none⟩ (.int .i64 0)).setCell ⟨g, p * 4 + 3, none⟩ (.int .i64 0)) := by
  have hlt := (List.getElem?_eq_some_iff.1 hf).1
  have at' : ∀ (l' : List We) (x : We), l'.length = l.length → (l'.set p x)[p]? = some x := fun l' x q => by
    rw [List.getElem?_set, if_pos rfl, if_pos (by rw [q]; exact hlt)]
  have h1 := h.put (e' := ⟨0, f.c, f.t, f.v⟩) (j := 0) (u := .int .i64 0) hf (by decide) rfl
  have h2 := h1.put (e' := ⟨0, 0, f.t, f.v⟩) (j := 1) (u := .int .i64 0) (at' l _ rfl) (by decide) rfl
  have h3 := h2.put (e' := ⟨0, 0, 0, f.v⟩) (j := 2) (u := .int .i64 0) (at' _ _ (by simp)) (by decide) rfl
  have h4 := h3.put (e' := ⟨0, 0, 0, 0⟩) (j := 3) (u := .int .i64 0) (at' _ _ (by simp)) (by decide) rfl
  simp only [List.set_set] at h4
  exact ⟨h4, (((hb.trans (h.putB _)).trans (h1.putB _)).trans (h2.putB _)).trans (h3.putB _)⟩
section
variable {md : Region.Mode} {ops : Array Oper} {S : World → Prop} {Q : Exit → Act → World → Prop}
/-- An operation of a region that is taken by hand: it reads alone. -/
theorem tkT {oi : Oper} {fuel : Nat} {listed : Array Bool} {a : Act} {w : World} (i : Nat) (v : Value) (hi : ops[i]? = some oi)
    (h : wpAnyH Try.prog md ops Q S fuel (listed.setIfInBounds i true) (a.put oi.dst v) w)
    (hs : Region.noSelect ops = true := by kernel_rfl) (hf : Region.free md ops listed i = true := by kernel_rfl) (hr : (Region.ready md ops listed).contains i = true := by kernel_rfl)
    (hQ : ∀ c a w, Q (.panic c) (a.put oi.dst v) w → Q (.panic c) a w := by exact fun _ _ _ h => h)
    (hy : YieldsIf Try.prog ops S oi v a := by exact Or.inl ⟨by first | rfl | kernel_rfl, by intro wz hSw; (try dsimp only at hSw); go_simp⟩) (hS : S w := by assumption) : wpAnyH Try.prog md ops Q S (fuel + 1) listed a w :=
  wpAnyH_take hi hs hf hr hQ hy hS h
/-- One that its guard leaves out. -/
theorem tkU {oi : Oper} {fuel : Nat} {listed : Array Bool} {a : Act} {w : World} (i : Nat) (hi : ops[i]? = some oi)
    (h : wpAnyH Try.prog md ops Q S fuel (listed.setIfInBounds i true) (a.put oi.dst undef) w)
    (hs : Region.noSelect ops = true := by kernel_rfl) (hf : Region.free md ops listed i = true := by kernel_rfl) (hr : (Region.ready md ops listed).contains i = true := by kernel_rfl)
    (hQ : ∀ c a w, Q (.panic c) (a.put oi.dst undef) w → Q (.panic c) a w := by exact fun _ _ _ h => h)
    (hy : YieldsIf Try.prog ops S oi undef a := by exact Or.inr ⟨by kernel_rfl, rfl⟩) (hS : S w := by assumption) : wpAnyH Try.prog md ops Q S (fuel + 1) listed a w :=
  wpAnyH_take hi hs hf hr hQ hy hS h
end
end Go.Proofs.Ytmajbophgdimlaa
