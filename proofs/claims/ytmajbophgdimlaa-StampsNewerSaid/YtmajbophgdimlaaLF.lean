/- How lists of steps come in, and how long one may be. -/
import Derived.Test.YtmajbophgdimlaaLB
import Derived.ProofKit
import Derived.OpenShut
import Derived.ShutString
import Derived.Deep.Slices
import Derived.Deep.DeepHandedRow
import Derived.SizedLaws
import Derived.WideKeyArgs
namespace Go.Proofs.Ytmajbophgdimlaa
open Go.RowKit Go.ChangeShapes Go.WideShapes Go.ChangeAt
set_option linter.all false
/-- A step: its kind, two cells. -/
structure Op5 where
  k : Int
  r : Int
  c : Int
  r2 : Int
  c2 : Int
def Op5.cells (x : Op5) : Array Value := #[.int .i64 x.k, .int .i64 x.r, .int .i64 x.c, .int .i64 x.r2, .int .i64 x.c2]
def Op5.ok (x : Op5) : Prop := I64 x.k ∧ I64 x.r ∧ I64 x.c ∧ I64 x.r2 ∧ I64 x.c2
def CV {α : Type} (c : α → Array Value) (sz : Nat) (w : World) (v : Value) (l : List α) : Prop :=
  ∃ p cap, v = .slice p l.length cap ∧ l.length ≤ cap ∧ l.length ≤ 9223372036854775807 ∧ (0 < l.length → ∃ b o, p = some ⟨b, o, none⟩ ∧ b < w.heap.size ∧ ∀ i x, l[i]? = some x → ∀ j, j < sz → w.cell? ⟨b, o + i * sz + j, none⟩ = (c x)[j]?)
theorem CV.each {w : World} {p : Option Addr} {l : List Op5} (h : 0 < l.length → ∃ b o, p = some ⟨b, o, none⟩ ∧ b < w.heap.size ∧ ∀ i x, l[i]? = some x → ∀ j, j < 5 → w.cell? ⟨b, o + i * 5 + j, none⟩ = (Op5.cells x)[j]?) : ∀ i, i < l.length → ∃ (ab ao : Nat) (x : Op5), p = some ⟨ab, ao, none⟩ ∧ ab < w.heap.size ∧ l[i]? = some x ∧ ∀ j u, (Op5.cells x)[j]? = some u → w.cell? ⟨ab, ao + i * 5 + j, none⟩ = some u := fun i hi => by
  obtain ⟨ab, ao, e, hab, HA⟩ := h (by omega)
  obtain ⟨x, hx⟩ : ∃ x, l[i]? = some x := ⟨_, List.getElem?_eq_getElem hi⟩
  exact ⟨ab, ao, x, e, hab, hx, fun j u hu => (HA i x hx j (by have := (Array.getElem?_eq_some_iff.1 hu).1; exact this)).trans hu⟩
theorem take_next {α : Type} {l : List α} {i : Nat} {x : α} (h : l[i]? = some x) : l.take (i + 1) = l.take i ++ [x] := by rw [List.take_succ, h]; rfl
theorem drop_next {α : Type} {l : List α} {i : Nat} {x : α} (h : l[i]? = some x) : l.drop i = x :: l.drop (i + 1) := by
  obtain ⟨hi, rfl⟩ := List.getElem?_eq_some_iff.1 h
  exact List.drop_eq_getElem_cons hi
theorem laidOutN : laidOutB Try.prog = true := by kernel_rfl
theorem cellsOp : Try.prog.cellsOf 32 = 5 := by kernel_rfl
theorem bytesOp : Try.prog.bytesOf 32 = 40 := by kernel_rfl
theorem rowOps : 22 < Try.prog.types.size := of_decide_eq_true (by kernel_rfl)
theorem list2' {α : Type} {l : List α} (h : l.length = 2) : ∃ a b, l = [a, b] := by
  match l, h with
  | [a, b], _ => exact ⟨a, b, rfl⟩
theorem list3' {α : Type} {l : List α} (h : l.length = 3) : ∃ a b c, l = [a, b, c] := by
  match l, h with
  | [a, b, c], _ => exact ⟨a, b, c, rfl⟩
theorem list5' {α : Type} {l : List α} (h : l.length = 5) : ∃ a b c d e, l = [a, b, c, d, e] := by
  match l, h with
  | [a, b, c, d, e], _ => exact ⟨a, b, c, d, e, rfl⟩
section
variable {H : Type} {enc : TypeId × Value → H} {w : World} {base : Nat} {spare : Nat → Bool} {held : Bool} {r : Reach} {b0 : Nat}
set_option maxRecDepth 100000 in
theorem open_list {α : Type} (c : α → Array Value) (sz : Nat) (x0 : α) (tS tE : TypeId) (hu : Try.prog.underlying tS = some (.slice tE)) (hcs : Try.prog.cellsOf tE = sz) (hsz : 0 < sz) (hcz : ∀ x, (c x).size = sz) (Q : α → Prop)
    (tr : ∀ (n : Nat) (cs : List Value) (y : DataW H × List MemPlace), DataW.trod enc Try.prog w base spare held n tE cs = some y → ∃ x : α, cs = (c x).toList ∧ Q x)
    {v : Value} {d : DataW H} {p : List MemPlace} (hv : Value.okWide Try.prog w r b0 tS v) (h : DataW.Trod enc Try.prog w base spare held tS v d p) :
    ∃ l : List α, CV c sz w v l ∧ (∀ x ∈ l, Q x) := by
  obtain ⟨fp, fn, fc, rfl⟩ := okWide_slice hu hv
  obtain ⟨fuel, hf⟩ := h
  have g : DataW.trod enc Try.prog w base spare held fuel tS [.slice fp fn fc] = some (d, p) := hf
  rcases Go.Deep.open_slice hu g with ⟨h1, _⟩ | ⟨a, len, cap, m, n, D, Pl, h1, hb, hlc, hcm, hm, h2, hel⟩
  · simp only [List.cons.injEq, Value.slice.injEq, and_true] at h1
    obtain ⟨rfl, rfl, rfl⟩ := h1
    exact ⟨[], ⟨none, 0, rfl, Nat.le_refl _, Nat.zero_le _, fun h => absurd h (by simp)⟩, (fun x hx => by cases hx)⟩
  · simp only [List.cons.injEq, Value.slice.injEq, and_true] at h1
    obtain ⟨rfl, rfl, rfl⟩ := h1
    have hlm : fn ≤ m := by rw [hm]; split <;> omega
    have each : ∀ i, i < fn → ∃ x : α, Q x ∧ ∀ j, j < sz → w.cell? ((a.add (i * sz)).add j) = (c x)[j]? := fun i hi => by
      obtain ⟨cs', hc, ht⟩ := hel i (by omega)
      rw [hcs] at hc
      obtain ⟨_, hl4, hcell⟩ := World.cells?_some hc
      obtain ⟨x, rfl, hw⟩ := tr _ _ _ ht
      exact ⟨x, hw, fun j hj => by rw [hcell j hj]; simp [hcz, hj]⟩
    have ha : 0 < fn → a = ⟨a.block, a.off, none⟩ := fun h0 => by
      obtain ⟨x, _, hc⟩ := each 0 h0
      have h3 := hc 0 hsz
      rw [show (a.add (0 * sz)).add 0 = a by simp [Addr.add]] at h3
      rw [Array.getElem?_eq_getElem (by rw [hcz]; exact hsz)] at h3
      have hs := World.cell?_spot h3
      obtain ⟨b, o, s⟩ := a
      simp only at hs
      rw [hs]
    classical
    have hex : ∀ i : Nat, ∃ x : α, i < fn → (Q x ∧ ∀ j, j < sz → w.cell? ((a.add (i * sz)).add j) = (c x)[j]?) := fun i => by
      by_cases hi : i < fn
      · obtain ⟨x, hx⟩ := each i hi
        exact ⟨x, fun _ => hx⟩
      · exact ⟨x0, fun h => absurd h hi⟩
    let f : Nat → α := fun i => Classical.choose (hex i)
    have hf2 : ∀ i, i < fn → (Q (f i) ∧ ∀ j, j < sz → w.cell? ((a.add (i * sz)).add j) = (c (f i))[j]?) := fun i => Classical.choose_spec (hex i)
    have hnl : ((List.range fn).map f).length = fn := by simp
    refine ⟨(List.range fn).map f, ⟨some a, fc, by rw [hnl], by rw [hnl]; exact hlc, by rw [hnl]; unfold maxLen at hcm; omega, fun h0 => ?_⟩, fun x hx => ?_⟩
    · rw [hnl] at h0
      refine ⟨a.block, a.off, congrArg some (ha h0), ?_, fun i x hi j hj => ?_⟩
      · obtain ⟨_, hc⟩ := hf2 0 h0
        have h3 := hc 0 hsz
        rw [Array.getElem?_eq_getElem (by rw [hcz]; exact hsz)] at h3
        have h4 := World.block_lt_of_cell? w _ h3
        simpa [Addr.add] using h4
      · have hil : i < fn := by have := (List.getElem?_eq_some_iff.1 hi).1; rwa [hnl] at this
        have e : x = f i := by
          rw [List.getElem?_map, List.getElem?_range hil] at hi
          simpa using hi.symm
        rw [e, ← (hf2 i hil).2 j hj]
        congr 1
        rw [Go.Deep.add_add, ha h0]
        simp [Addr.add, Nat.add_assoc]
    · obtain ⟨i, hi, rfl⟩ := List.mem_map.1 hx
      exact (hf2 i (by simpa using hi)).1
set_option maxRecDepth 100000 in
theorem trod_cell2 {n : Nat} {c0 c1 : Value} {y : DataW H × List MemPlace} (h : DataW.trod enc Try.prog w base spare held n 30 [c0, c1] = some y) : ∃ r0 r1 : Int, c0 = .int .i64 r0 ∧ c1 = .int .i64 r1 ∧ I64 r0 ∧ I64 r1 := by
  obtain ⟨xs, nf, _, hx, hl, hlen, hf⟩ := DataW.trod_struct Try.underlying30 h
  obtain ⟨y0, y1, rfl⟩ := list2' (show xs.length = 2 by simpa using hlen)
  have g0 : DataW.trod enc Try.prog w base spare held nf 3 [c0] = some y0 := by
    have q := hf 0 _ rfl
    simpa [cellsI] using q
  have g1 : DataW.trod enc Try.prog w base spare held nf 3 [c1] = some y1 := by
    have q := hf 1 _ rfl
    simpa [cellsI] using q
  obtain ⟨a0, e0, _, w0⟩ := DataW.trod_int Try.underlying3 g0
  obtain ⟨a1, e1, _, w1⟩ := DataW.trod_int Try.underlying3 g1
  simp only [List.cons.injEq, and_true] at e0 e1
  exact ⟨a0, a1, e0, e1, i64_of w0, i64_of w1⟩
set_option maxRecDepth 100000 in
theorem trod_op {n : Nat} {cs : List Value} {y : DataW H × List MemPlace} (h : DataW.trod enc Try.prog w base spare held n 32 cs = some y) : ∃ x : Op5, cs = x.cells.toList ∧ x.ok := by
  obtain ⟨xs, nf, _, hx, hl, hlen, hf⟩ := DataW.trod_struct Try.underlying32 h
  obtain ⟨c0, c1, c2, c3, c4, rfl⟩ := list5' (hl.trans cellsOp)
  obtain ⟨y0, y1, y2, rfl⟩ := list3' (show xs.length = 3 by simpa using hlen)
  have g0 : DataW.trod enc Try.prog w base spare held nf 3 [c0] = some y0 := by
    have q := hf 0 _ rfl
    simpa [cellsI] using q
  have g1 : DataW.trod enc Try.prog w base spare held nf 30 [c1, c2] = some y1 := by
    have q := hf 1 _ rfl
    simpa [cellsI, cellsC] using q
  have g2 : DataW.trod enc Try.prog w base spare held nf 30 [c3, c4] = some y2 := by
    have q := hf 2 _ rfl
    simpa [cellsI, cellsC] using q
  obtain ⟨a0, e0, _, w0⟩ := DataW.trod_int Try.underlying3 g0
  obtain ⟨a1, a2, rfl, rfl, w1, w2⟩ := trod_cell2 g1
  obtain ⟨a3, a4, rfl, rfl, w3, w4⟩ := trod_cell2 g2
  simp only [List.cons.injEq, and_true] at e0
  subst e0
  exact ⟨⟨a0, a1, a2, a3, a4⟩, rfl, ⟨i64_of w0, w1, w2, w3, w4⟩⟩
set_option maxRecDepth 100000 in
theorem open_ops {v : Value} {d : DataW H} {p : List MemPlace} (hv : Value.okWide Try.prog w r b0 22 v) (h : DataW.Trod enc Try.prog w base spare held 22 v d p) : ∃ l : List Op5, CV Op5.cells 5 w v l ∧ (∀ x ∈ l, x.ok) :=
  open_list Op5.cells 5 ⟨0, 0, 0, 0, 0⟩ _ 32 Try.underlying22 cellsOp (by omega) (fun _ => rfl) _ (fun _ _ _ h => trod_op h) hv h
theorem list_bytes {α : Type} {c : α → Array Value} {sz k : Nat} {tS tE : TypeId} (hu : Try.prog.underlying tS = some (.slice tE)) (hk : Try.prog.bytesOf tE = k) {v : Value} {l : List α} (hv : CV c sz w v l) {d : DataW H} {p : List MemPlace} (h : DataW.Trod enc Try.prog w base spare held tS v d p)
    {ts : List TypeId} {ds : List (DataW H)} (hZ : (DataW.weightsEach Try.prog ts ds).all (· ≤ reachBytes) = true) {j : Nat} (ht : ts[j]? = some tS) (hd : ds[j]? = some d) : l.length * k ≤ 140737488355327 := by
  obtain ⟨q, cap, rfl, _, _, _⟩ := hv
  obtain ⟨fuel, hf⟩ := h
  have g : DataW.trod enc Try.prog w base spare held fuel tS [.slice q l.length cap] = some (d, p) := hf
  rcases Go.Deep.open_slice hu g with ⟨h1, _⟩ | ⟨a, len, cap', m, n, D, Pl, h1, hb, hlc, hcm, hm, h2, hel⟩
  · simp only [List.cons.injEq, Value.slice.injEq, and_true] at h1
    rw [h1.2.1]; omega
  · simp only [List.cons.injEq, Value.slice.injEq, and_true] at h1
    have e : d = .slice ((List.range len).map D) ((List.range (m - len)).map fun j => D (len + j)) := congrArg Prod.fst h2
    rw [e] at hd
    have := sized_slice hZ ht hd hu
    rw [hk] at this
    simp only [List.length_map, List.length_range] at this
    have hr := reachBytes_lt
    rw [h1.2.1]
    have h5 : len * k ≤ (len + (m - len)) * k := Nat.mul_le_mul_right _ (by omega)
    omega
end
end Go.Proofs.Ytmajbophgdimlaa
