/- How an argument, and a list of arguments, each with its entries, comes in, and its bulk. -/
import Derived.Test.YtfikaamjnkmbdaaGreatDoorQGTwGN
import Derived.Test.YtfikaamjnkmbdaaGreatDoorRows
import Derived.ProofKit
import Derived.OpenShut
import Derived.ShutString
import Derived.Deep.Slices
import Derived.Deep.DeepHandedRow
import Derived.SizedLaws
import Derived.WideKeyArgs
namespace Go.Proofs.YtfikaamjnkmbdaaGreatDoor
open Go.RowKit Go.ChangeShapes Go.WideShapes Go.ChangeAt
set_option linter.all false
namespace Oa
theorem i64_of {x : Int} (h : (Lit.int .i64 x).wf = true) : I64 x := by
  have : -9223372036854775808 ≤ x ∧ x ≤ 9223372036854775807 := by simpa [Lit.wf, IntKind.min, IntKind.max, IntKind.signed, IntKind.bits] using h
  exact this
theorem cV : Tryz.prog.cellsOf 26 = 5 := by kernel_rfl
theorem cT : Tryz.prog.cellsOf 23 = 1 := by kernel_rfl
theorem cI : Tryz.prog.cellsOf 2 = 1 := by kernel_rfl
theorem cN : Tryz.prog.cellsOf 3 = 1 := by kernel_rfl
theorem cS : Tryz.prog.cellsOf 9 = 1 := by kernel_rfl
theorem cC : Tryz.prog.cellsOf 24 = 1 := by kernel_rfl
theorem cB : Tryz.prog.cellsOf 4 = 1 := by kernel_rfl
theorem cR : Tryz.prog.cellsOf 37 = 4 := by kernel_rfl
theorem cL : Tryz.prog.cellsOf 49 = 2 := by kernel_rfl
theorem cE : Tryz.prog.cellsOf 51 = 7 := by kernel_rfl
theorem cA : Tryz.prog.cellsOf 40 = 11 := by kernel_rfl
theorem cM : Tryz.prog.cellsOf 38 = 1 := by kernel_rfl
theorem list2 {α : Type} {l : List α} (h : l.length = 2) : ∃ a b, l = [a, b] := by
  match l, h with
  | [a, b], _ => exact ⟨a, b, rfl⟩
theorem list4 {α : Type} {l : List α} (h : l.length = 4) : ∃ a b c d, l = [a, b, c, d] := by
  match l, h with
  | [a, b, c, d], _ => exact ⟨a, b, c, d, rfl⟩
theorem list5 {α : Type} {l : List α} (h : l.length = 5) : ∃ a b c d e, l = [a, b, c, d, e] := by
  match l, h with
  | [a, b, c, d, e], _ => exact ⟨a, b, c, d, e, rfl⟩
theorem list7 {α : Type} {l : List α} (h : l.length = 7) : ∃ a b c d e f g, l = [a, b, c, d, e, f, g] := by
  match l, h with
  | [a, b, c, d, e, f, g], _ => exact ⟨a, b, c, d, e, f, g, rfl⟩
theorem list11 {α : Type} {l : List α} (h : l.length = 11) : ∃ a b c d e f g i j k m, l = [a, b, c, d, e, f, g, i, j, k, m] := by
  match l, h with
  | [a, b, c, d, e, f, g, i, j, k, m], _ => exact ⟨a, b, c, d, e, f, g, i, j, k, m, rfl⟩
section
variable {H : Type} {enc : TypeId × Value → H} {w : World} {base : Nat} {spare : Nat → Bool} {held : Bool} {r : Reach} {b0 : Nat}
set_option maxRecDepth 100000 in
theorem trod_val {n : Nat} {c0 c1 c2 c3 c4 : Value} {y : DataW H × List MemPlace} (h : DataW.trod enc Tryz.prog w base spare held n 26 [c0, c1, c2, c3, c4] = some y) : ∃ (t m : Int) (s : ByteArray) (b : Bool) (c : Int), c0 = .int .i64 t ∧ c1 = .int .i64 m ∧ c2 = .string s ∧ c3 = .bool b ∧ c4 = .int .i64 c ∧ I64 t ∧ I64 m ∧ I64 c ∧ s.size ≤ maxLen := by
  obtain ⟨xs, nf, _, hx, hl, hlen, hf⟩ := DataW.trod_struct Tryz.underlying26 h
  obtain ⟨y0, y1, y2, y3, y4, rfl⟩ := list5 (show xs.length = 5 by simpa using hlen)
  have g0 : DataW.trod enc Tryz.prog w base spare held nf 23 [c0] = some y0 := by
    have q := hf 0 _ rfl
    simpa [cT] using q
  have g1 : DataW.trod enc Tryz.prog w base spare held nf 2 [c1] = some y1 := by
    have q := hf 1 _ rfl
    simpa [cI] using q
  have g2 : DataW.trod enc Tryz.prog w base spare held nf 9 [c2] = some y2 := by
    have q := hf 2 _ rfl
    simpa [cS] using q
  have g3 : DataW.trod enc Tryz.prog w base spare held nf 4 [c3] = some y3 := by
    have q := hf 3 _ rfl
    simpa [cB] using q
  have g4 : DataW.trod enc Tryz.prog w base spare held nf 24 [c4] = some y4 := by
    have q := hf 4 _ rfl
    simpa [cC] using q
  obtain ⟨t, e0, _, w0⟩ := DataW.trod_int Tryz.underlying23 g0
  obtain ⟨m, e1, _, w1⟩ := DataW.trod_int Tryz.underlying2 g1
  obtain ⟨s, e2, _, w2⟩ := DataW.trod_string Tryz.underlying9 g2
  obtain ⟨b, e3, _⟩ := DataW.trod_bool Tryz.underlying4 g3
  obtain ⟨c, e4, _, w4⟩ := DataW.trod_int Tryz.underlying24 g4
  simp only [List.cons.injEq, and_true] at e0 e1 e2 e3 e4
  exact ⟨t, m, s, b, c, e0, e1, e2, e3, e4, i64_of w0, i64_of w1, i64_of w4, w2⟩
set_option maxRecDepth 100000 in
theorem trod_rect {n : Nat} {c0 c1 c2 c3 : Value} {y : DataW H × List MemPlace} (h : DataW.trod enc Tryz.prog w base spare held n 37 [c0, c1, c2, c3] = some y) : ∃ r0 r1 r2 r3 : Int, c0 = .int .i64 r0 ∧ c1 = .int .i64 r1 ∧ c2 = .int .i64 r2 ∧ c3 = .int .i64 r3 ∧ I64 r0 ∧ I64 r1 ∧ I64 r2 ∧ I64 r3 := by
  obtain ⟨xs, nf, _, hx, hl, hlen, hf⟩ := DataW.trod_struct Tryz.underlying37 h
  obtain ⟨y0, y1, y2, y3, rfl⟩ := list4 (show xs.length = 4 by simpa using hlen)
  have g0 : DataW.trod enc Tryz.prog w base spare held nf 3 [c0] = some y0 := by
    have q := hf 0 _ rfl
    simpa [cN] using q
  have g1 : DataW.trod enc Tryz.prog w base spare held nf 3 [c1] = some y1 := by
    have q := hf 1 _ rfl
    simpa [cN] using q
  have g2 : DataW.trod enc Tryz.prog w base spare held nf 3 [c2] = some y2 := by
    have q := hf 2 _ rfl
    simpa [cN] using q
  have g3 : DataW.trod enc Tryz.prog w base spare held nf 3 [c3] = some y3 := by
    have q := hf 3 _ rfl
    simpa [cN] using q
  obtain ⟨a0, e0, _, w0⟩ := DataW.trod_int Tryz.underlying3 g0
  obtain ⟨a1, e1, _, w1⟩ := DataW.trod_int Tryz.underlying3 g1
  obtain ⟨a2, e2, _, w2⟩ := DataW.trod_int Tryz.underlying3 g2
  obtain ⟨a3, e3, _, w3⟩ := DataW.trod_int Tryz.underlying3 g3
  simp only [List.cons.injEq, and_true] at e0 e1 e2 e3
  exact ⟨a0, a1, a2, a3, e0, e1, e2, e3, i64_of w0, i64_of w1, i64_of w2, i64_of w3⟩
set_option maxRecDepth 100000 in
theorem trod_cell {n : Nat} {c0 c1 : Value} {y : DataW H × List MemPlace} (h : DataW.trod enc Tryz.prog w base spare held n 49 [c0, c1] = some y) : ∃ r0 r1 : Int, c0 = .int .i64 r0 ∧ c1 = .int .i64 r1 ∧ I64 r0 ∧ I64 r1 := by
  obtain ⟨xs, nf, _, hx, hl, hlen, hf⟩ := DataW.trod_struct Tryz.underlying49 h
  obtain ⟨y0, y1, rfl⟩ := list2 (show xs.length = 2 by simpa using hlen)
  have g0 : DataW.trod enc Tryz.prog w base spare held nf 3 [c0] = some y0 := by
    have q := hf 0 _ rfl
    simpa [cN] using q
  have g1 : DataW.trod enc Tryz.prog w base spare held nf 3 [c1] = some y1 := by
    have q := hf 1 _ rfl
    simpa [cN] using q
  obtain ⟨a0, e0, _, w0⟩ := DataW.trod_int Tryz.underlying3 g0
  obtain ⟨a1, e1, _, w1⟩ := DataW.trod_int Tryz.underlying3 g1
  simp only [List.cons.injEq, and_true] at e0 e1
  exact ⟨a0, a1, e0, e1, i64_of w0, i64_of w1⟩
/-- The numbers of an entry fit, and its text. -/
def EnW (x : En) : Prop := I64 x.r ∧ I64 x.k ∧ I64 x.t ∧ I64 x.n ∧ I64 x.c ∧ x.s.size ≤ maxLen
set_option maxRecDepth 100000 in
theorem trod_ent {n : Nat} {cs : List Value} {y : DataW H × List MemPlace} (h : DataW.trod enc Tryz.prog w base spare held n 51 cs = some y) : ∃ x : En, cs = x.cells.toList ∧ EnW x ∧ 1 ≤ Rows.uptoBulk y.1 := by
  obtain ⟨xs, nf, _, hx, hl, hlen, hf⟩ := DataW.trod_struct Tryz.underlying51 h
  obtain ⟨c0, c1, c2, c3, c4, c5, c6, rfl⟩ := list7 (hl.trans cE)
  obtain ⟨y0, y1, rfl⟩ := list2 (show xs.length = 2 by simpa using hlen)
  have g0 : DataW.trod enc Tryz.prog w base spare held nf 49 [c0, c1] = some y0 := by
    have q := hf 0 _ rfl
    simpa [cL] using q
  have g1 : DataW.trod enc Tryz.prog w base spare held nf 26 [c2, c3, c4, c5, c6] = some y1 := by
    have q := hf 1 _ rfl
    simpa [cV] using q
  obtain ⟨r, k, rfl, rfl, w0, w1⟩ := trod_cell g0
  obtain ⟨t, m, s, b, c, rfl, rfl, rfl, rfl, rfl, w2, w3, w4, w5⟩ := trod_val g1
  exact ⟨⟨r, k, t, m, s, b, c⟩, rfl, ⟨w0, w1, w2, w3, w4, w5⟩, by rw [hx]; simp only [Rows.uptoBulk]; omega⟩
set_option maxRecDepth 100000 in
theorem val_weight {n : Nat} {c0 c1 c2 c3 c4 : Value} {y : DataW H × List MemPlace} {s : ByteArray} (hs : c2 = .string s) (h : DataW.trod enc Tryz.prog w base spare held n 26 [c0, c1, c2, c3, c4] = some y) : s.size ∈ DataW.weights Tryz.prog 26 y.1 := by
  obtain ⟨xs, nf, _, hx, hl, hlen, hf⟩ := DataW.trod_struct Tryz.underlying26 h
  obtain ⟨y0, y1, y2, y3, y4, rfl⟩ := list5 (show xs.length = 5 by simpa using hlen)
  have g2 : DataW.trod enc Tryz.prog w base spare held nf 9 [c2] = some y2 := by
    have q := hf 2 _ rfl
    simpa [cS] using q
  obtain ⟨s', e2, ey, _⟩ := DataW.trod_string Tryz.underlying9 g2
  subst hs
  simp only [List.cons.injEq, Value.string.injEq, and_true] at e2
  subst e2
  rw [hx, ey]
  simp only [List.map_cons, List.map_nil, DataW.weights, Tryz.underlying26, DataW.weightsEach, List.mem_append, List.mem_cons]
  have e : s.data.toList.length = s.size := by rw [Array.length_toList]; rfl
  rw [e]
  simp
set_option maxRecDepth 100000 in
theorem ent_weight {n : Nat} {cs : List Value} {y : DataW H × List MemPlace} {x : En} (e : cs = x.cells.toList) (h : DataW.trod enc Tryz.prog w base spare held n 51 cs = some y) : x.s.size ∈ DataW.weights Tryz.prog 51 y.1 := by
  subst e
  obtain ⟨xs, nf, _, hx, hl, hlen, hf⟩ := DataW.trod_struct Tryz.underlying51 h
  obtain ⟨y0, y1, rfl⟩ := list2 (show xs.length = 2 by simpa using hlen)
  have g1 : DataW.trod enc Tryz.prog w base spare held nf 26 [.int .i64 x.t, .int .i64 x.n, .string x.s, .bool x.b, .int .i64 x.c] = some y1 := by
    have q := hf 1 _ rfl
    simpa [cV, En.cells] using q
  have hv := val_weight rfl g1
  rw [hx]
  simp only [List.map_cons, List.map_nil, DataW.weights, Tryz.underlying51]
  exact List.mem_append_right _ (List.mem_append_left _ hv)
set_option maxRecDepth 100000 in
/-- A slice whose elements come in as x : α. -/
theorem open_list {α : Type} {cells : α → Array Value} {k : Nat} (hk : 0 < k) (x0 : α) {T E : TypeId} (hU : Tryz.prog.underlying T = some (.slice E)) (hcE : Tryz.prog.cellsOf E = k) {Q : α → DataW H → Prop}
    (elem : ∀ {n : Nat} {cs : List Value} {y : DataW H × List MemPlace}, DataW.trod enc Tryz.prog w base spare held n E cs = some y → ∃ x : α, cs = (cells x).toList ∧ Q x y.1)
    {fp : Option Addr} {fn fc : Nat} {fuel : Nat} {d : DataW H} {p : List MemPlace} (g : DataW.trod enc Tryz.prog w base spare held fuel T [.slice fp fn fc] = some (d, p)) :
    ∃ l : List α, View cells k w (.slice fp fn fc) l ∧ l.length = fn ∧ fn ≤ maxLen ∧ ((l = [] ∧ d = .nil) ∨ ∃ elems sp, elems.length = l.length ∧ (∀ (i : Nat) (x : α) (e : DataW H), l[i]? = some x → elems[i]? = some e → Q x e) ∧ d = .slice elems sp) := by
  rcases Go.Deep.open_slice hU g with ⟨h1, h2⟩ | ⟨a, len, cap, m, n, D, Pl, h1, hb, hlc, hcm, hm, h2, hel⟩
  · simp only [List.cons.injEq, Value.slice.injEq, and_true] at h1
    obtain ⟨rfl, rfl, rfl⟩ := h1
    exact ⟨[], ⟨none, 0, rfl, Nat.le_refl _, fun h => absurd h (by simp)⟩, rfl, Nat.zero_le _, .inl ⟨rfl, congrArg Prod.fst h2⟩⟩
  · simp only [List.cons.injEq, Value.slice.injEq, and_true] at h1
    obtain ⟨rfl, rfl, rfl⟩ := h1
    have hlm : fn ≤ m := by rw [hm]; split <;> omega
    have each : ∀ i, i < fn → ∃ x : α, Q x (D i) ∧ ∀ j, j < k → w.cell? ((a.add (i * k)).add j) = (cells x)[j]? := fun i hi => by
      obtain ⟨cs', hc, ht⟩ := hel i (by omega)
      rw [hcE] at hc
      obtain ⟨_, hl4, hcell⟩ := World.cells?_some hc
      obtain ⟨x, rfl, hQ⟩ := elem ht
      exact ⟨x, hQ, fun j hj => by rw [hcell j hj]; simp⟩
    have ha : 0 < fn → a = ⟨a.block, a.off, none⟩ ∧ a.block < w.heap.size := fun h0 => by
      obtain ⟨cs', hc, ht⟩ := hel 0 (by omega)
      rw [hcE] at hc
      obtain ⟨_, hl4, hcell⟩ := World.cells?_some hc
      have h3 := hcell 0 hk
      have hlt : 0 < cs'.length := by omega
      rw [List.getElem?_eq_getElem hlt] at h3
      rw [show (a.add (0 * k)).add 0 = a by simp [Addr.add]] at h3
      have hs := World.cell?_spot h3
      have h4 := World.block_lt_of_cell? w _ h3
      obtain ⟨b, o, s⟩ := a
      simp only at hs
      rw [hs]
      exact ⟨rfl, h4⟩
    classical
    have hex : ∀ i : Nat, ∃ x : α, i < fn → (Q x (D i) ∧ ∀ j, j < k → w.cell? ((a.add (i * k)).add j) = (cells x)[j]?) := fun i => by
      by_cases hi : i < fn
      · obtain ⟨x, hx⟩ := each i hi
        exact ⟨x, fun _ => hx⟩
      · exact ⟨x0, fun h => absurd h hi⟩
    let f : Nat → α := fun i => Classical.choose (hex i)
    have hf2 : ∀ i, i < fn → (Q (f i) (D i) ∧ ∀ j, j < k → w.cell? ((a.add (i * k)).add j) = (cells (f i))[j]?) := fun i => Classical.choose_spec (hex i)
    have hnl : ((List.range fn).map f).length = fn := by simp
    refine ⟨(List.range fn).map f, ⟨some a, fc, by rw [hnl], by rw [hnl]; exact hlc, fun h0 => ?_⟩, hnl, Nat.le_trans hlc hcm, .inr ⟨(List.range fn).map D, (List.range (m - fn)).map (fun j => D (fn + j)), by simp, fun i x e hi he => ?_, ?_⟩⟩
    · rw [hnl] at h0
      refine ⟨a.block, a.off, congrArg some (ha h0).1, (ha h0).2, fun i x hi j hj => ?_⟩
      have hil : i < fn := by have := (List.getElem?_eq_some_iff.1 hi).1; rwa [hnl] at this
      have e : x = f i := by
        rw [List.getElem?_map, List.getElem?_range hil] at hi
        simpa using hi.symm
      rw [e, ← (hf2 i hil).2 j hj]
      congr 1
      rw [Go.Deep.add_add, (ha h0).1]
      simp [Addr.add, Nat.add_assoc]
    · have hil : i < fn := by have := (List.getElem?_eq_some_iff.1 hi).1; rwa [hnl] at this
      rw [List.getElem?_map, List.getElem?_range hil] at hi he
      simp at hi he
      subst hi he
      exact (hf2 i hil).1
    · have h2' := congrArg Prod.fst h2
      simpa using h2'
theorem bulk_len : ∀ (es : List (DataW H)), (∀ e ∈ es, 1 ≤ Rows.uptoBulk e) → es.length ≤ Rows.uptoBulkAll es
  | [], _ => Nat.zero_le _
  | x :: r, h => by
    have h1 := bulk_len r (fun e he => h e (List.mem_cons_of_mem _ he))
    have h2 := h x (List.mem_cons_self ..)
    simp only [Rows.uptoBulkAll, List.length_cons]
    omega
/-- What is known of an argument and its entries. -/
def AgW (w : World) (p : Ag × List En) : Prop := (I64 p.1.t ∧ I64 p.1.n ∧ I64 p.1.c ∧ I64 p.1.r0 ∧ I64 p.1.r1 ∧ I64 p.1.r2 ∧ I64 p.1.r3) ∧ View En.cells 7 w (.slice p.1.ep p.1.en p.1.ec) p.2 ∧ p.2.length = p.1.en ∧ p.1.en ≤ maxLen ∧ ∀ x ∈ p.2, EnW x
theorem AgW.e {w : World} {p : Ag × List En} (h : AgW w p) (hf : p.2.length ≤ 1099511627776) : AgE w p := ⟨h.2.1, fun x hx => (h.2.2.2.2 x hx).2.2.2.1, h.1.2.1, hf⟩
theorem weights_all {P : Program} {T : TypeId} {n : Nat} {d : DataW H} : ∀ {l : List (DataW H)}, d ∈ l → n ∈ DataW.weights P T d → n ∈ DataW.weightsAll P T l
  | x :: r, hm, hn => by
    simp only [DataW.weightsAll]
    rcases List.mem_cons.1 hm with rfl | hm
    · exact List.mem_append_left _ hn
    · exact List.mem_append_right _ (weights_all hm hn)
set_option maxRecDepth 100000 in
theorem trod_arg {n : Nat} {cs : List Value} {y : DataW H × List MemPlace} (h : DataW.trod enc Tryz.prog w base spare held n 40 cs = some y) : ∃ x : Ag × List En, cs = (Ag.cells x.1).toList ∧ AgW w x ∧ x.2.length + 1 ≤ Rows.uptoBulk y.1 ∧ ∀ e ∈ x.2, e.s.size ∈ DataW.weights Tryz.prog 40 y.1 := by
  obtain ⟨xs, nf, _, hx, hl, hlen, hf⟩ := DataW.trod_struct Tryz.underlying40 h
  obtain ⟨c0, c1, c2, c3, c4, c5, c6, c7, c8, c9, c10, rfl⟩ := list11 (hl.trans cA)
  obtain ⟨y0, y1, y2, y3, rfl⟩ := list4 (show xs.length = 4 by simpa using hlen)
  have g0 : DataW.trod enc Tryz.prog w base spare held nf 4 [c0] = some y0 := by
    have q := hf 0 _ rfl
    simpa [cB] using q
  have g1 : DataW.trod enc Tryz.prog w base spare held nf 26 [c1, c2, c3, c4, c5] = some y1 := by
    have q := hf 1 _ rfl
    simpa [cV] using q
  have g2 : DataW.trod enc Tryz.prog w base spare held nf 37 [c6, c7, c8, c9] = some y2 := by
    have q := hf 2 _ rfl
    simpa [cR] using q
  have g3 : DataW.trod enc Tryz.prog w base spare held nf 38 [c10] = some y3 := by
    have q := hf 3 _ rfl
    simpa [cM] using q
  obtain ⟨mb, e0, _⟩ := DataW.trod_bool Tryz.underlying4 g0
  simp only [List.cons.injEq, and_true] at e0
  subst e0
  obtain ⟨t, m, s, b, c, rfl, rfl, rfl, rfl, rfl, w2, w3, w4, _⟩ := trod_val g1
  obtain ⟨r0, r1, r2, r3, rfl, rfl, rfl, rfl, w5, w6, w7, w8⟩ := trod_rect g2
  have hsl : ∃ fp fn fc, c10 = .slice fp fn fc := by
    rcases Go.Deep.open_slice Tryz.underlying38 g3 with ⟨h1, _⟩ | ⟨a, len, cap, _, _, _, _, h1, _⟩
    · simp only [List.cons.injEq, and_true] at h1; exact ⟨_, _, _, h1⟩
    · simp only [List.cons.injEq, and_true] at h1; exact ⟨_, _, _, h1⟩
  obtain ⟨fp, fn, fc, rfl⟩ := hsl
  obtain ⟨es, hv, hln, hmx, hd⟩ := open_list (cells := En.cells) (k := 7) (by decide) ⟨0, 0, 0, 0, ⟨#[]⟩, false, 0⟩ Tryz.underlying38 cE (Q := fun x d => (EnW x ∧ 1 ≤ Rows.uptoBulk d) ∧ x.s.size ∈ DataW.weights Tryz.prog 51 d) (fun ht => by obtain ⟨x, e, h1, h2⟩ := trod_ent ht; exact ⟨x, e, ⟨h1, h2⟩, ent_weight e ht⟩) (show DataW.trod enc Tryz.prog w base spare held nf 38 [.slice fp fn fc] = some (y3.1, y3.2) from g3)
  have hEs : ∀ x ∈ es, EnW x := fun x hx => by
    rcases hd with ⟨rfl, _⟩ | ⟨elems, sp, hle, hq, _⟩
    · cases hx
    · obtain ⟨i, hi, rfl⟩ := List.getElem_of_mem hx
      exact (hq i _ _ (List.getElem?_eq_getElem hi) (List.getElem?_eq_getElem (by omega))).1.1
  refine ⟨(⟨mb, t, m, s, b, c, r0, r1, r2, r3, fp, fn, fc⟩, es), rfl, ⟨⟨w2, w3, w4, w5, w6, w7, w8⟩, hv, hln, hmx, hEs⟩, ?_, ?_⟩
  rotate_left
  · intro e he
    rw [hx]
    simp only [List.map_cons, List.map_nil, DataW.weights, Tryz.underlying40]
    rcases hd with ⟨rfl, _⟩ | ⟨elems, sp, hle, hq, hd⟩
    · cases he
    · obtain ⟨i, hi, rfl⟩ := List.getElem_of_mem he
      have hi3 : i < es.length := hi
      have hi2 : i < elems.length := by omega
      have hw := (hq i _ _ (List.getElem?_eq_getElem hi) (List.getElem?_eq_getElem hi2)).2
      refine List.mem_append_right _ (List.mem_append_right _ (List.mem_append_right _ (List.mem_append_left _ ?_)))
      rw [hd]
      simp only [DataW.weights, Tryz.underlying38]
      exact List.mem_cons_of_mem _ (List.mem_append_left _ (weights_all (List.getElem_mem hi2) hw))
  rw [hx]
  rcases hd with ⟨rfl, hn⟩ | ⟨elems, sp, hle, hq, hd⟩
  · simp only [Rows.uptoBulk, List.length_nil]; omega
  · have hb : es.length ≤ Rows.uptoBulkAll elems := by
      rw [← hle]
      refine bulk_len elems (fun e he => ?_)
      obtain ⟨i, hi, rfl⟩ := List.getElem_of_mem he
      exact (hq i _ _ (List.getElem?_eq_getElem (by omega)) (List.getElem?_eq_getElem hi)).1.2
    simp only [List.map_cons, List.map_nil, Rows.uptoBulk, Rows.uptoBulkAll, hd]
    omega
set_option maxRecDepth 100000 in
theorem open_argw {v : Value} {d : DataW H} {p : List MemPlace} (hv : Value.okWide Tryz.prog w r b0 40 v) (h : DataW.Trod enc Tryz.prog w base spare held 40 v d p) :
    ∃ x : Ag × List En, v = .agg (Ag.cells x.1) ∧ AgW w x ∧ ∀ e ∈ x.2, e.s.size ∈ DataW.weights Tryz.prog 40 d := by
  obtain ⟨cs, rfl, hsz⟩ := okWide_struct Tryz.underlying40 hv
  obtain ⟨fuel, hf⟩ := h
  obtain ⟨x, e, h1, _, h2⟩ := trod_arg (show DataW.trod enc Tryz.prog w base spare held fuel 40 cs.toList = some (d, p) from hf)
  refine ⟨x, ?_, h1, h2⟩
  rw [← Array.toArray_toList (xs := cs), e, Array.toArray_toList]
end
end Oa
end Go.Proofs.YtfikaamjnkmbdaaGreatDoor
