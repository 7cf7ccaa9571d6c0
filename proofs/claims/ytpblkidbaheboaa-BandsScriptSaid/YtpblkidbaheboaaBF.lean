/- How lists of operations come in, and how long one may be. -/
import Derived.Test.YtpblkidbaheboaaCE
import Derived.ProofKit
import Derived.OpenShut
import Derived.ShutString
import Derived.Deep.Slices
import Derived.Deep.DeepHandedRow
import Derived.SizedLaws
import Derived.WideKeyArgs
namespace Go.Proofs.Ytpblkidbaheboaa
open Go.RowKit Go.ChangeShapes Go.WideShapes Go.ChangeAt
set_option linter.all false
theorem laidOutN : laidOutB Try.prog = true := by kernel_rfl
theorem cellsOp : Try.prog.cellsOf 35 = 7 := by kernel_rfl
theorem bytesOp : Try.prog.bytesOf 35 = 56 := by kernel_rfl
theorem rowOps : 22 < Try.prog.types.size := of_decide_eq_true (by kernel_rfl)
theorem list4' {α : Type} {l : List α} (h : l.length = 4) : ∃ a b c d, l = [a, b, c, d] := by
  match l, h with
  | [a, b, c, d], _ => exact ⟨a, b, c, d, rfl⟩
theorem list3' {α : Type} {l : List α} (h : l.length = 3) : ∃ a b c, l = [a, b, c] := by
  match l, h with
  | [a, b, c], _ => exact ⟨a, b, c, rfl⟩
theorem list7' {α : Type} {l : List α} (h : l.length = 7) : ∃ a b c d e f g, l = [a, b, c, d, e, f, g] := by
  match l, h with
  | [a, b, c, d, e, f, g], _ => exact ⟨a, b, c, d, e, f, g, rfl⟩
section
variable {H : Type} {enc : TypeId × Value → H} {w : World} {base : Nat} {spare : Nat → Bool} {held : Bool} {r : Reach} {b0 : Nat}
set_option maxRecDepth 100000 in
theorem open_list {α : Type} (c : α → Array Value) (sz : Nat) (x0 : α) (tS tE : TypeId) (hu : Try.prog.underlying tS = some (.slice tE)) (hcs : Try.prog.cellsOf tE = sz) (hsz : 0 < sz) (hcz : ∀ x, (c x).size = sz) (Q : α → Prop)
    (tr : ∀ (n : Nat) (cs : List Value) (y : DataW H × List MemPlace), DataW.trod enc Try.prog w base spare held n tE cs = some y → ∃ x : α, cs = (c x).toList ∧ Q x)
    {v : Value} {d : DataW H} {p : List MemPlace} (hv : Value.okWide Try.prog w r b0 tS v) (h : DataW.Trod enc Try.prog w base spare held tS v d p) :
    ∃ l : List α, CV c sz w v l ∧ (∀ x ∈ l, Q x) := by
  obtain ⟨fp, fn, fc, rfl⟩ := okWide_slice hu hv
  obtain ⟨fuel, hf⟩ := h
  have g : DataW.trod enc Try.prog w base spare held fuel tS [.slice fp fn fc] = some (d, p) := hf
  rcases Go.Deep.open_slice hu g with ⟨h1, _⟩ | ⟨a, len, cap, m, n, D, Pl, h1, hb, hlc, hcm, hm, h2, hel⟩
  · simp only [List.cons.injEq, Value.slice.injEq, and_true] at h1
    obtain ⟨rfl, rfl, rfl⟩ := h1
    exact ⟨[], ⟨none, 0, rfl, Nat.le_refl _, Nat.zero_le _, fun h => absurd h (by simp)⟩, (fun x hx => by cases hx)⟩
  · simp only [List.cons.injEq, Value.slice.injEq, and_true] at h1
    obtain ⟨rfl, rfl, rfl⟩ := h1
    have hlm : fn ≤ m := by rw [hm]; split <;> omega
    have each : ∀ i, i < fn → ∃ x : α, Q x ∧ ∀ j, j < sz → w.cell? ((a.add (i * sz)).add j) = (c x)[j]? := fun i hi => by
      obtain ⟨cs', hc, ht⟩ := hel i (by omega)
      rw [hcs] at hc
      obtain ⟨_, hl4, hcell⟩ := World.cells?_some hc
      obtain ⟨x, rfl, hw⟩ := tr _ _ _ ht
      exact ⟨x, hw, fun j hj => by rw [hcell j hj]; simp [hcz, hj]⟩
    have ha : 0 < fn → a = ⟨a.block, a.off, none⟩ := fun h0 => by
      obtain ⟨x, _, hc⟩ := each 0 h0
      have h3 := hc 0 hsz
      rw [show (a.add (0 * sz)).add 0 = a by simp [Addr.add]] at h3
      rw [Array.getElem?_eq_getElem (by rw [hcz]; exact hsz)] at h3
      have hs := World.cell?_spot h3
      obtain ⟨b, o, s⟩ := a
      simp only at hs
      rw [hs]
    classical
    have hex : ∀ i : Nat, ∃ x : α, i < fn → (Q x ∧ ∀ j, j < sz → w.cell? ((a.add (i * sz)).add j) = (c x)[j]?) := fun i => by
      by_cases hi : i < fn
      · obtain ⟨x, hx⟩ := each i hi
        exact ⟨x, fun _ => hx⟩
      · exact ⟨x0, fun h => absurd h hi⟩
    let f : Nat → α := fun i => Classical.choose (hex i)
    have hf2 : ∀ i, i < fn → (Q (f i) ∧ ∀ j, j < sz → w.cell? ((a.add (i * sz)).add j) = (c (f i))[j]?) := fun i => Classical.choose_spec (hex i)
    have hnl : ((List.range fn).map f).length = fn := by simp
    refine ⟨(List.range fn).map f, ⟨some a, fc, by rw [hnl], by rw [hnl]; exact hlc, by rw [hnl]; unfold maxLen at hcm; omega, fun h0 => ?_⟩, fun x hx => ?_⟩
    · rw [hnl] at h0
      refine ⟨a.block, a.off, congrArg some (ha h0), ?_, fun i x hi j hj => ?_⟩
      · obtain ⟨_, hc⟩ := hf2 0 h0
        have h3 := hc 0 hsz
        rw [Array.getElem?_eq_getElem (by rw [hcz]; exact hsz)] at h3
        have h4 := World.block_lt_of_cell? w _ h3
        simpa [Addr.add] using h4
      · have hil : i < fn := by have := (List.getElem?_eq_some_iff.1 hi).1; rwa [hnl] at this
        have e : x = f i := by
          rw [List.getElem?_map, List.getElem?_range hil] at hi
          simpa using hi.symm
        rw [e, ← (hf2 i hil).2 j hj]
        congr 1
        rw [Go.Deep.add_add, ha h0]
        simp [Addr.add, Nat.add_assoc]
    · obtain ⟨i, hi, rfl⟩ := List.mem_map.1 hx
      exact (hf2 i (by simpa using hi)).1
set_option maxRecDepth 100000 in
theorem trod_rect4 {n : Nat} {c0 c1 c2 c3 : Value} {y : DataW H × List MemPlace} (h : DataW.trod enc Try.prog w base spare held n 31 [c0, c1, c2, c3] = some y) : ∃ r0 r1 r2 r3 : Int, c0 = .int .i64 r0 ∧ c1 = .int .i64 r1 ∧ c2 = .int .i64 r2 ∧ c3 = .int .i64 r3 ∧ I64 r0 ∧ I64 r1 ∧ I64 r2 ∧ I64 r3 := by
  obtain ⟨xs, nf, _, hx, hl, hlen, hf⟩ := DataW.trod_struct Try.underlying31 h
  obtain ⟨y0, y1, y2, y3, rfl⟩ := list4' (show xs.length = 4 by simpa using hlen)
  have g0 : DataW.trod enc Try.prog w base spare held nf 3 [c0] = some y0 := by
    have q := hf 0 _ rfl
    simpa [cellsI] using q
  have g1 : DataW.trod enc Try.prog w base spare held nf 3 [c1] = some y1 := by
    have q := hf 1 _ rfl
    simpa [cellsI] using q
  have g2 : DataW.trod enc Try.prog w base spare held nf 3 [c2] = some y2 := by
    have q := hf 2 _ rfl
    simpa [cellsI] using q
  have g3 : DataW.trod enc Try.prog w base spare held nf 3 [c3] = some y3 := by
    have q := hf 3 _ rfl
    simpa [cellsI] using q
  obtain ⟨a0, e0, _, w0⟩ := DataW.trod_int Try.underlying3 g0
  obtain ⟨a1, e1, _, w1⟩ := DataW.trod_int Try.underlying3 g1
  obtain ⟨a2, e2, _, w2⟩ := DataW.trod_int Try.underlying3 g2
  obtain ⟨a3, e3, _, w3⟩ := DataW.trod_int Try.underlying3 g3
  simp only [List.cons.injEq, and_true] at e0 e1 e2 e3
  exact ⟨a0, a1, a2, a3, e0, e1, e2, e3, i64_of w0, i64_of w1, i64_of w2, i64_of w3⟩
set_option maxRecDepth 100000 in
theorem trod_op {n : Nat} {cs : List Value} {y : DataW H × List MemPlace} (h : DataW.trod enc Try.prog w base spare held n 35 cs = some y) : ∃ x : Op7, cs = x.cells.toList ∧ x.ok := by
  obtain ⟨xs, nf, _, hx, hl, hlen, hf⟩ := DataW.trod_struct Try.underlying35 h
  obtain ⟨c0, c1, c2, c3, c4, c5, c6, rfl⟩ := list7' (hl.trans cellsOp)
  obtain ⟨y0, y1, y2, rfl⟩ := list3' (show xs.length = 3 by simpa using hlen)
  have g0 : DataW.trod enc Try.prog w base spare held nf 3 [c0] = some y0 := by
    have q := hf 0 _ rfl
    simpa [cellsI] using q
  have g1 : DataW.trod enc Try.prog w base spare held nf 31 [c1, c2, c3, c4] = some y1 := by
    have q := hf 1 _ rfl
    simpa [cellsI, cellsR] using q
  have g2 : DataW.trod enc Try.prog w base spare held nf 33 [c5, c6] = some y2 := by
    have q := hf 2 _ rfl
    simpa [cellsI, cellsC, cellsR] using q
  obtain ⟨a0, e0, _, w0⟩ := DataW.trod_int Try.underlying3 g0
  obtain ⟨a3, a4, a5, a6, rfl, rfl, rfl, rfl, w3, w4, w5, w6⟩ := trod_rect4 g1
  obtain ⟨a1, a2, rfl, rfl, _, w1, w2⟩ := trod_cell g2
  simp only [List.cons.injEq, and_true] at e0
  subst e0
  exact ⟨⟨a0, a3, a4, a5, a6, a1, a2⟩, rfl, ⟨i64_of w0, w3, w4, w5, w6, i64_of w1, i64_of w2⟩⟩
set_option maxRecDepth 100000 in
theorem open_ops {v : Value} {d : DataW H} {p : List MemPlace} (hv : Value.okWide Try.prog w r b0 22 v) (h : DataW.Trod enc Try.prog w base spare held 22 v d p) : ∃ l : List Op7, CV Op7.cells 7 w v l ∧ (∀ x ∈ l, x.ok) :=
  open_list Op7.cells 7 ⟨0, 0, 0, 0, 0, 0, 0⟩ _ 35 Try.underlying22 cellsOp (by omega) (fun _ => rfl) _ (fun _ _ _ h => trod_op h) hv h
theorem list_bytes {α : Type} {c : α → Array Value} {sz k : Nat} {tS tE : TypeId} (hu : Try.prog.underlying tS = some (.slice tE)) (hk : Try.prog.bytesOf tE = k) {v : Value} {l : List α} (hv : CV c sz w v l) {d : DataW H} {p : List MemPlace} (h : DataW.Trod enc Try.prog w base spare held tS v d p)
    {ts : List TypeId} {ds : List (DataW H)} (hZ : (DataW.weightsEach Try.prog ts ds).all (· ≤ reachBytes) = true) {j : Nat} (ht : ts[j]? = some tS) (hd : ds[j]? = some d) : l.length * k ≤ 140737488355327 := by
  obtain ⟨q, cap, rfl, _, _, _⟩ := hv
  obtain ⟨fuel, hf⟩ := h
  have g : DataW.trod enc Try.prog w base spare held fuel tS [.slice q l.length cap] = some (d, p) := hf
  rcases Go.Deep.open_slice hu g with ⟨h1, _⟩ | ⟨a, len, cap', m, n, D, Pl, h1, hb, hlc, hcm, hm, h2, hel⟩
  · simp only [List.cons.injEq, Value.slice.injEq, and_true] at h1
    rw [h1.2.1]; omega
  · simp only [List.cons.injEq, Value.slice.injEq, and_true] at h1
    have e : d = .slice ((List.range len).map D) ((List.range (m - len)).map fun j => D (len + j)) := congrArg Prod.fst h2
    rw [e] at hd
    have := sized_slice hZ ht hd hu
    rw [hk] at this
    simp only [List.length_map, List.length_range] at this
    have hr := reachBytes_lt
    rw [h1.2.1]
    have h5 : len * k ≤ (len + (m - len)) * k := Nat.mul_le_mul_right _ (by omega)
    omega
end
end Go.Proofs.Ytpblkidbaheboaa
