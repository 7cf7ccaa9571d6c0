/- A formula as it comes in: its nodes, in a list that is read where it lies; how many there can be. No function's text is walked here. -/
import Derived.Test.YtekpmdpmcbjkkaaDoorN3
import Derived.Test.YtekpmdpmcbjkkaaDoorCards
import Derived.Test.YtekpmdpmcbjkkaaDoorTie
import Derived.Deep.DeepHandedRow
import Derived.Deep.Slices
import Derived.Lib.LaidTab
import Derived.Lay
import Derived.Stop.LaidErr
import Derived.LaidOnce
import Derived.SevenTiedAt
import Derived.ProofKit
import Derived.OpenShut
import Derived.SizedLaws
import Derived.WideKeyArgs
namespace Go.Proofs.YtekpmdpmcbjkkaaDoor
open Go.RowKit Go.ChangeShapes Go.WideShapes Go.ChangeAt
set_option linter.all false
theorem cellsNode : Tryd.prog.cellsOf 42 = 15 := by kernel_rfl
theorem cellsForm : Tryd.prog.cellsOf 24 = 1 := by kernel_rfl
theorem cellsSl : Tryd.prog.cellsOf 22 = 1 := by kernel_rfl
theorem cellsVal : Tryd.prog.cellsOf 38 = 5 := by kernel_rfl
theorem cellsTag : Tryd.prog.cellsOf 35 = 1 := by kernel_rfl
theorem cellsI64 : Tryd.prog.cellsOf 2 = 1 := by kernel_rfl
theorem cellsStr : Tryd.prog.cellsOf 9 = 1 := by kernel_rfl
theorem cellsBoo : Tryd.prog.cellsOf 4 = 1 := by kernel_rfl
theorem cellsCode : Tryd.prog.cellsOf 36 = 1 := by kernel_rfl
theorem bytesNode : Tryd.prog.bytesOf 42 = 136 := by kernel_rfl
theorem list15 {α : Type} {l : List α} (h : l.length = 15) : ∃ c0 c1 c2 c3 c4 c5 c6 c7 c8 c9 c10 c11 c12 c13 c14, l = [c0, c1, c2, c3, c4, c5, c6, c7, c8, c9, c10, c11, c12, c13, c14] := by
  match l, h with
  | [c0, c1, c2, c3, c4, c5, c6, c7, c8, c9, c10, c11, c12, c13, c14], _ => exact ⟨c0, c1, c2, c3, c4, c5, c6, c7, c8, c9, c10, c11, c12, c13, c14, rfl⟩
theorem list7 {α : Type} {l : List α} (h : l.length = 7) : ∃ c0 c1 c2 c3 c4 c5 c6, l = [c0, c1, c2, c3, c4, c5, c6] := by
  match l, h with
  | [c0, c1, c2, c3, c4, c5, c6], _ => exact ⟨c0, c1, c2, c3, c4, c5, c6, rfl⟩
theorem list5 {α : Type} {l : List α} (h : l.length = 5) : ∃ c0 c1 c2 c3 c4, l = [c0, c1, c2, c3, c4] := by
  match l, h with
  | [c0, c1, c2, c3, c4], _ => exact ⟨c0, c1, c2, c3, c4, rfl⟩
theorem list4 {α : Type} {l : List α} (h : l.length = 4) : ∃ c0 c1 c2 c3, l = [c0, c1, c2, c3] := by
  match l, h with
  | [c0, c1, c2, c3], _ => exact ⟨c0, c1, c2, c3, rfl⟩
theorem list2 {α : Type} {l : List α} (h : l.length = 2) : ∃ c0 c1, l = [c0, c1] := by
  match l, h with
  | [c0, c1], _ => exact ⟨c0, c1, rfl⟩
theorem list1 {α : Type} {l : List α} (h : l.length = 1) : ∃ c0, l = [c0] := by
  match l, h with
  | [c0], _ => exact ⟨c0, rfl⟩
section
variable {H : Type} {enc : TypeId × Value → H} {w : World} {base : Nat} {spare : Nat → Bool} {held : Bool} {r : Reach} {b0 : Nat}
set_option maxRecDepth 100000 in
theorem trod_val {n : Nat} {c0 c1 c2 c3 c4 : Value} {y : DataW H × List MemPlace} (h : DataW.trod enc Tryd.prog w base spare held n 38 [c0, c1, c2, c3, c4] = some y) :
    ∃ (t m : Int) (s : ByteArray) (b : Bool) (c : Int), c0 = .int .i64 t ∧ c1 = .int .i64 m ∧ c2 = .string s ∧ c3 = .bool b ∧ c4 = .int .i64 c ∧ (Lit.int .i64 m).wf = true := by
  obtain ⟨xs, nf, _, hx, hl, hlen, hf⟩ := DataW.trod_struct Tryd.underlying38 h
  obtain ⟨y0, y1, y2, y3, y4, rfl⟩ := list5 (show xs.length = 5 by simpa using hlen)
  have ghf0 : DataW.trod enc Tryd.prog w base spare held nf 35 [c0] = some y0 := by
    have q := hf 0 _ rfl
    simpa [cellsTag] using q
  have ghf1 : DataW.trod enc Tryd.prog w base spare held nf 2 [c1] = some y1 := by
    have q := hf 1 _ rfl
    simpa [cellsI64] using q
  have ghf2 : DataW.trod enc Tryd.prog w base spare held nf 9 [c2] = some y2 := by
    have q := hf 2 _ rfl
    simpa [cellsStr] using q
  have ghf3 : DataW.trod enc Tryd.prog w base spare held nf 4 [c3] = some y3 := by
    have q := hf 3 _ rfl
    simpa [cellsBoo] using q
  have ghf4 : DataW.trod enc Tryd.prog w base spare held nf 36 [c4] = some y4 := by
    have q := hf 4 _ rfl
    simpa [cellsCode] using q
  obtain ⟨t, e0, _, _⟩ := DataW.trod_int Tryd.underlying35 ghf0
  obtain ⟨m, e1, _, w1⟩ := DataW.trod_int Tryd.underlying2 ghf1
  obtain ⟨s, e2, _, _⟩ := DataW.trod_string Tryd.underlying9 ghf2
  obtain ⟨b, e3, _⟩ := DataW.trod_bool Tryd.underlying4 ghf3
  obtain ⟨c, e4, _, _⟩ := DataW.trod_int Tryd.underlying36 ghf4
  simp only [List.cons.injEq, and_true] at e0 e1 e2 e3 e4
  exact ⟨t, m, s, b, c, e0, e1, e2, e3, e4, w1⟩
set_option maxRecDepth 100000 in
theorem trod_cel {n : Nat} {c0 c1 : Value} {y : DataW H × List MemPlace} (h : DataW.trod enc Tryd.prog w base spare held n 40 [c0, c1] = some y) : ∃ a b : Int, c0 = .int .i64 a ∧ c1 = .int .i64 b := by
  obtain ⟨xs, nf, _, hx, hl, hlen, hf⟩ := DataW.trod_struct Tryd.underlying40 h
  obtain ⟨y0, y1, rfl⟩ := list2 (show xs.length = 2 by simpa using hlen)
  have ghf0 : DataW.trod enc Tryd.prog w base spare held nf 3 [c0] = some y0 := by
    have q := hf 0 _ rfl
    simpa [cellsI] using q
  have ghf1 : DataW.trod enc Tryd.prog w base spare held nf 3 [c1] = some y1 := by
    have q := hf 1 _ rfl
    simpa [cellsI] using q
  obtain ⟨a, e0, _, _⟩ := DataW.trod_int Tryd.underlying3 ghf0
  obtain ⟨b, e1, _, _⟩ := DataW.trod_int Tryd.underlying3 ghf1
  simp only [List.cons.injEq, and_true] at e0 e1
  exact ⟨a, b, e0, e1⟩
set_option maxRecDepth 100000 in
theorem trod_rec {n : Nat} {c0 c1 c2 c3 : Value} {y : DataW H × List MemPlace} (h : DataW.trod enc Tryd.prog w base spare held n 29 [c0, c1, c2, c3] = some y) : ∃ a b c d : Int, c0 = .int .i64 a ∧ c1 = .int .i64 b ∧ c2 = .int .i64 c ∧ c3 = .int .i64 d := by
  obtain ⟨xs, nf, _, hx, hl, hlen, hf⟩ := DataW.trod_struct Tryd.underlying29 h
  obtain ⟨y0, y1, y2, y3, rfl⟩ := list4 (show xs.length = 4 by simpa using hlen)
  have ghf0 : DataW.trod enc Tryd.prog w base spare held nf 3 [c0] = some y0 := by
    have q := hf 0 _ rfl
    simpa [cellsI] using q
  have ghf1 : DataW.trod enc Tryd.prog w base spare held nf 3 [c1] = some y1 := by
    have q := hf 1 _ rfl
    simpa [cellsI] using q
  have ghf2 : DataW.trod enc Tryd.prog w base spare held nf 3 [c2] = some y2 := by
    have q := hf 2 _ rfl
    simpa [cellsI] using q
  have ghf3 : DataW.trod enc Tryd.prog w base spare held nf 3 [c3] = some y3 := by
    have q := hf 3 _ rfl
    simpa [cellsI] using q
  obtain ⟨a, e0, _, _⟩ := DataW.trod_int Tryd.underlying3 ghf0
  obtain ⟨b, e1, _, _⟩ := DataW.trod_int Tryd.underlying3 ghf1
  obtain ⟨c, e2, _, _⟩ := DataW.trod_int Tryd.underlying3 ghf2
  obtain ⟨d, e3, _, _⟩ := DataW.trod_int Tryd.underlying3 ghf3
  simp only [List.cons.injEq, and_true] at e0 e1 e2 e3
  exact ⟨a, b, c, d, e0, e1, e2, e3⟩
set_option maxRecDepth 100000 in
theorem trod_node {n : Nat} {cs : List Value} {y : DataW H × List MemPlace} (h : DataW.trod enc Tryd.prog w base spare held n 42 cs = some y) : ∃ x : Nd, cs = x.cells.toList ∧ Vv.I64 x.num := by
  obtain ⟨xs, nf, _, hx, hl, hlen, hf⟩ := DataW.trod_struct Tryd.underlying42 h
  obtain ⟨c0, c1, c2, c3, c4, c5, c6, c7, c8, c9, c10, c11, c12, c13, c14, rfl⟩ := list15 (hl.trans cellsNode)
  obtain ⟨y0, y1, y2, y3, y4, y5, y6, rfl⟩ := list7 (show xs.length = 7 by simpa using hlen)
  have ghf0 : DataW.trod enc Tryd.prog w base spare held nf 3 [c0] = some y0 := by
    have q := hf 0 _ rfl
    simpa [cellsI] using q
  have ghf1 : DataW.trod enc Tryd.prog w base spare held nf 38 [c1, c2, c3, c4, c5] = some y1 := by
    have q := hf 1 _ rfl
    simpa [cellsVal] using q
  have ghf2 : DataW.trod enc Tryd.prog w base spare held nf 40 [c6, c7] = some y2 := by
    have q := hf 2 _ rfl
    simpa [cellsC] using q
  have ghf3 : DataW.trod enc Tryd.prog w base spare held nf 29 [c8, c9, c10, c11] = some y3 := by
    have q := hf 3 _ rfl
    simpa [cellsR] using q
  have ghf4 : DataW.trod enc Tryd.prog w base spare held nf 3 [c12] = some y4 := by
    have q := hf 4 _ rfl
    simpa [cellsI] using q
  have ghf5 : DataW.trod enc Tryd.prog w base spare held nf 9 [c13] = some y5 := by
    have q := hf 5 _ rfl
    simpa [cellsStr] using q
  have ghf6 : DataW.trod enc Tryd.prog w base spare held nf 3 [c14] = some y6 := by
    have q := hf 6 _ rfl
    simpa [cellsI] using q
  obtain ⟨kind, e0, _, _⟩ := DataW.trod_int Tryd.underlying3 ghf0
  obtain ⟨tag, num, str, is, code, rfl, rfl, rfl, rfl, rfl, hw⟩ := trod_val ghf1
  obtain ⟨row, col, rfl, rfl⟩ := trod_cel ghf2
  obtain ⟨top, left, bot, right, rfl, rfl, rfl, rfl⟩ := trod_rec ghf3
  obtain ⟨op, e4, _, _⟩ := DataW.trod_int Tryd.underlying3 ghf4
  obtain ⟨name, e5, _, _⟩ := DataW.trod_string Tryd.underlying9 ghf5
  obtain ⟨args, e6, _, _⟩ := DataW.trod_int Tryd.underlying3 ghf6
  simp only [List.cons.injEq, and_true] at e0 e4 e5 e6
  subst e0 e4 e5 e6
  exact ⟨⟨kind, tag, num, str, is, code, row, col, top, left, bot, right, op, name, args⟩, rfl, i64_of hw⟩
set_option maxRecDepth 100000 in
/-- Its nodes. -/
theorem open_formula {v : Value} {d : DataW H} {p : List MemPlace} (hv : Value.okWide Tryd.prog w r b0 24 v) (h : DataW.Trod enc Tryd.prog w base spare held 24 v d p) :
    ∃ (val : Value) (ns : List Nd), v = .agg #[val] ∧ NV w val ns ∧ (∀ x ∈ ns, Vv.I64 x.num) ∧ (ns = [] ∨ ∃ elems sp, elems.length = ns.length ∧ d = .agg [.slice elems sp]) := by
  obtain ⟨cs, rfl, hsz⟩ := okWide_struct Tryd.underlying24 hv
  obtain ⟨l⟩ := cs
  obtain ⟨c0, rfl⟩ := list1 (show l.length = 1 from hsz.trans cellsForm)
  obtain ⟨fuel, hf⟩ := h
  obtain ⟨xs, nf, _, hx, hl, hlen, hfl⟩ := DataW.trod_struct Tryd.underlying24 hf
  obtain ⟨y0, rfl⟩ := list1 (show xs.length = 1 by simpa using hlen)
  have g : DataW.trod enc Tryd.prog w base spare held nf 22 [c0] = some y0 := by
    have q := hfl 0 _ rfl
    simpa [cellsSl, Value.cells] using q
  simp only [Prod.mk.injEq] at hx
  rcases Go.Deep.open_slice Tryd.underlying22 g with ⟨h1, h2⟩ | ⟨a, len, cap, m, n, D, Pl, h1, hb, hlc, hcm, hm, h2, hel⟩
  · obtain rfl : c0 = .slice none 0 0 := by simpa using h1
    exact ⟨_, [], rfl, ⟨none, 0, rfl, Nat.le_refl _, fun h => absurd h (by simp)⟩, (fun x hx => by cases hx), .inl rfl⟩
  · obtain rfl : c0 = .slice (some a) len cap := by simpa using h1
    have hlm : len ≤ m := by rw [hm]; split <;> omega
    have each : ∀ i, i < len → ∃ x : Nd, Vv.I64 x.num ∧ ∀ j, j < 15 → w.cell? ((a.add (i * 15)).add j) = (Nd.cells x)[j]? := fun i hi => by
      obtain ⟨cs', hc, ht⟩ := hel i (by omega)
      rw [cellsNode] at hc
      obtain ⟨_, _, hcell⟩ := World.cells?_some hc
      obtain ⟨x, rfl, hw⟩ := trod_node ht
      exact ⟨x, hw, fun j hj => by rw [hcell j hj]; simp⟩
    have ha : 0 < len → a = ⟨a.block, a.off, none⟩ := fun h0 => by
      obtain ⟨x, _, hc⟩ := each 0 h0
      have h3 := hc 0 (by decide)
      rw [show (a.add (0 * 15)).add 0 = a by simp [Addr.add]] at h3
      have hs := World.cell?_spot h3
      obtain ⟨b, o, s⟩ := a
      simp only at hs
      rw [hs]
    classical
    have hex : ∀ i : Nat, ∃ x : Nd, i < len → (Vv.I64 x.num ∧ ∀ j, j < 15 → w.cell? ((a.add (i * 15)).add j) = (Nd.cells x)[j]?) := fun i => by
      by_cases hi : i < len
      · obtain ⟨x, hx⟩ := each i hi
        exact ⟨x, fun _ => hx⟩
      · exact ⟨nd0, fun h => absurd h hi⟩
    let f : Nat → Nd := fun i => Classical.choose (hex i)
    have hf2 : ∀ i, i < len → (Vv.I64 (f i).num ∧ ∀ j, j < 15 → w.cell? ((a.add (i * 15)).add j) = (Nd.cells (f i))[j]?) := fun i => Classical.choose_spec (hex i)
    have hnl : ((List.range len).map f).length = len := by simp
    refine ⟨.slice (some a) len cap, (List.range len).map f, rfl, ⟨some a, cap, by rw [hnl], by rw [hnl]; exact hlc, fun h0 => ?_⟩, fun x hx => ?_, .inr ⟨(List.range len).map D, (List.range (m - len)).map (fun j => D (len + j)), by simp, ?_⟩⟩
    · rw [hnl] at h0
      refine ⟨a.block, a.off, congrArg some (ha h0), ?_, fun i x hi j hj => ?_⟩
      · obtain ⟨_, hc⟩ := hf2 0 h0
        have h3 := hc 0 (by decide)
        have h4 := World.block_lt_of_cell? w _ h3
        simpa [Addr.add] using h4
      · have hil : i < len := by have := (List.getElem?_eq_some_iff.1 hi).1; rwa [hnl] at this
        have e : x = f i := by
          rw [List.getElem?_map, List.getElem?_range hil] at hi
          simpa using hi.symm
        rw [e, ← (hf2 i hil).2 j hj]
        congr 1
        rw [Go.Deep.add_add, ha h0]
        simp [Addr.add, Nat.add_assoc]
    · obtain ⟨i, hi, rfl⟩ := List.mem_map.1 hx
      exact (hf2 i (by simpa using hi)).1
    · rw [hx.1, h2]
      rfl
end
theorem size_formula {H : Type} {ts : List TypeId} {ds : List (DataW H)} {d : DataW H} {ns : List Nd} (h : (DataW.weightsEach Tryd.prog ts ds).all (· ≤ reachBytes) = true) {j : Nat} (ht : ts[j]? = some 24) (hd : ds[j]? = some d)
    (hs : ns = [] ∨ ∃ elems sp, elems.length = ns.length ∧ d = .agg [.slice elems sp]) : 136 * (ns.length + 2) ≤ 281474976710656 := by
  rcases hs with rfl | ⟨elems, sp, hl, rfl⟩
  · decide
  · have h1 := List.all_eq_true.1 h _ (DataW.weights_mem_each ht hd ((elems.length + sp.length) * Tryd.prog.bytesOf 42) (by simp [DataW.weights, DataW.weightsEach, Tryd.underlying24, Tryd.underlying22]))
    rw [bytesNode] at h1
    have h2 := of_decide_eq_true h1
    unfold reachBytes at h2
    omega
/-- The two tables that each row of this seat lists. -/
def tables : List (String × DataW Unit) := [("unicode/utf8.acceptRanges", Rows.laid_unicode_utf8_acceptRanges), ("unicode/utf8.first", Rows.laid_unicode_utf8_first)]
theorem laidOutF : laidOutB Tryd.prog = true := by kernel_rfl
theorem rowForm : 24 < Tryd.prog.types.size := of_decide_eq_true (by kernel_rfl)
end Go.Proofs.YtekpmdpmcbjkkaaDoor
