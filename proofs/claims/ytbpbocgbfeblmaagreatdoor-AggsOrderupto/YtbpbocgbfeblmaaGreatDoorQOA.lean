/- How an argument, and a list of arguments, each with its entries, comes in, and its bulk. Plain facts of the law AggsOrder, the seven functions of its list by their place, and the contract of the law's faulty. New memory alone is made. -/
import Derived.Test.YtbpbocgbfeblmaaGreatDoorQGTw
import Derived.Test.YtbpbocgbfeblmaaGreatDoorRows
import Derived.ProofKit
import Derived.OpenShut
import Derived.ShutString
import Derived.Deep.Slices
import Derived.Deep.DeepHandedRow
import Derived.SizedLaws
import Derived.WideKeyArgs
import Derived.Test.YtbpbocgbfeblmaaGreatDoorQGA3
import Derived.Test.YtbpbocgbfeblmaaGreatDoorQGX3
namespace Go.Proofs.YtbpbocgbfeblmaaGreatDoor
open Go.RowKit Go.ChangeShapes Go.WideShapes Go.ChangeAt
set_option linter.all false
namespace Oa
theorem i64_of {x : Int} (h : (Lit.int .i64 x).wf = true) : I64 x := by
  have : -9223372036854775808 ≤ x ∧ x ≤ 9223372036854775807 := by simpa [Lit.wf, IntKind.min, IntKind.max, IntKind.signed, IntKind.bits] using h
  exact this
theorem cV : Tryz.prog.cellsOf 26 = 5 := by kernel_rfl
theorem cT : Tryz.prog.cellsOf 23 = 1 := by kernel_rfl
theorem cI : Tryz.prog.cellsOf 2 = 1 := by kernel_rfl
theorem cN : Tryz.prog.cellsOf 3 = 1 := by kernel_rfl
theorem cS : Tryz.prog.cellsOf 9 = 1 := by kernel_rfl
theorem cC : Tryz.prog.cellsOf 24 = 1 := by kernel_rfl
theorem cB : Tryz.prog.cellsOf 4 = 1 := by kernel_rfl
theorem cR : Tryz.prog.cellsOf 35 = 4 := by kernel_rfl
theorem cL : Tryz.prog.cellsOf 42 = 2 := by kernel_rfl
theorem cE : Tryz.prog.cellsOf 44 = 7 := by kernel_rfl
theorem cA : Tryz.prog.cellsOf 38 = 11 := by kernel_rfl
theorem cM : Tryz.prog.cellsOf 36 = 1 := by kernel_rfl
theorem rowArgs : 22 < Tryz.prog.types.size := of_decide_eq_true (by kernel_rfl)
theorem rowArg : 38 < Tryz.prog.types.size := of_decide_eq_true (by kernel_rfl)
theorem list2 {α : Type} {l : List α} (h : l.length = 2) : ∃ a b, l = [a, b] := by
  match l, h with
  | [a, b], _ => exact ⟨a, b, rfl⟩
theorem list4 {α : Type} {l : List α} (h : l.length = 4) : ∃ a b c d, l = [a, b, c, d] := by
  match l, h with
  | [a, b, c, d], _ => exact ⟨a, b, c, d, rfl⟩
theorem list5 {α : Type} {l : List α} (h : l.length = 5) : ∃ a b c d e, l = [a, b, c, d, e] := by
  match l, h with
  | [a, b, c, d, e], _ => exact ⟨a, b, c, d, e, rfl⟩
theorem list7 {α : Type} {l : List α} (h : l.length = 7) : ∃ a b c d e f g, l = [a, b, c, d, e, f, g] := by
  match l, h with
  | [a, b, c, d, e, f, g], _ => exact ⟨a, b, c, d, e, f, g, rfl⟩
theorem list11 {α : Type} {l : List α} (h : l.length = 11) : ∃ a b c d e f g i j k m, l = [a, b, c, d, e, f, g, i, j, k, m] := by
  match l, h with
  | [a, b, c, d, e, f, g, i, j, k, m], _ => exact ⟨a, b, c, d, e, f, g, i, j, k, m, rfl⟩
section
variable {H : Type} {enc : TypeId × Value → H} {w : World} {base : Nat} {spare : Nat → Bool} {held : Bool} {r : Reach} {b0 : Nat}
set_option maxRecDepth 100000 in
theorem trod_val {n : Nat} {c0 c1 c2 c3 c4 : Value} {y : DataW H × List MemPlace} (h : DataW.trod enc Tryz.prog w base spare held n 26 [c0, c1, c2, c3, c4] = some y) : ∃ (t m : Int) (s : ByteArray) (b : Bool) (c : Int), c0 = .int .i64 t ∧ c1 = .int .i64 m ∧ c2 = .string s ∧ c3 = .bool b ∧ c4 = .int .i64 c ∧ I64 t ∧ I64 m ∧ I64 c := by
  obtain ⟨xs, nf, _, hx, hl, hlen, hf⟩ := DataW.trod_struct Tryz.underlying26 h
  obtain ⟨y0, y1, y2, y3, y4, rfl⟩ := list5 (show xs.length = 5 by simpa using hlen)
  have g0 : DataW.trod enc Tryz.prog w base spare held nf 23 [c0] = some y0 := by
    have q := hf 0 _ rfl
    simpa [cT] using q
  have g1 : DataW.trod enc Tryz.prog w base spare held nf 2 [c1] = some y1 := by
    have q := hf 1 _ rfl
    simpa [cI] using q
  have g2 : DataW.trod enc Tryz.prog w base spare held nf 9 [c2] = some y2 := by
    have q := hf 2 _ rfl
    simpa [cS] using q
  have g3 : DataW.trod enc Tryz.prog w base spare held nf 4 [c3] = some y3 := by
    have q := hf 3 _ rfl
    simpa [cB] using q
  have g4 : DataW.trod enc Tryz.prog w base spare held nf 24 [c4] = some y4 := by
    have q := hf 4 _ rfl
    simpa [cC] using q
  obtain ⟨t, e0, _, w0⟩ := DataW.trod_int Tryz.underlying23 g0
  obtain ⟨m, e1, _, w1⟩ := DataW.trod_int Tryz.underlying2 g1
  obtain ⟨s, e2, _, _⟩ := DataW.trod_string Tryz.underlying9 g2
  obtain ⟨b, e3, _⟩ := DataW.trod_bool Tryz.underlying4 g3
  obtain ⟨c, e4, _, w4⟩ := DataW.trod_int Tryz.underlying24 g4
  simp only [List.cons.injEq, and_true] at e0 e1 e2 e3 e4
  exact ⟨t, m, s, b, c, e0, e1, e2, e3, e4, i64_of w0, i64_of w1, i64_of w4⟩
set_option maxRecDepth 100000 in
theorem trod_rect {n : Nat} {c0 c1 c2 c3 : Value} {y : DataW H × List MemPlace} (h : DataW.trod enc Tryz.prog w base spare held n 35 [c0, c1, c2, c3] = some y) : ∃ r0 r1 r2 r3 : Int, c0 = .int .i64 r0 ∧ c1 = .int .i64 r1 ∧ c2 = .int .i64 r2 ∧ c3 = .int .i64 r3 ∧ I64 r0 ∧ I64 r1 ∧ I64 r2 ∧ I64 r3 := by
  obtain ⟨xs, nf, _, hx, hl, hlen, hf⟩ := DataW.trod_struct Tryz.underlying35 h
  obtain ⟨y0, y1, y2, y3, rfl⟩ := list4 (show xs.length = 4 by simpa using hlen)
  have g0 : DataW.trod enc Tryz.prog w base spare held nf 3 [c0] = some y0 := by
    have q := hf 0 _ rfl
    simpa [cN] using q
  have g1 : DataW.trod enc Tryz.prog w base spare held nf 3 [c1] = some y1 := by
    have q := hf 1 _ rfl
    simpa [cN] using q
  have g2 : DataW.trod enc Tryz.prog w base spare held nf 3 [c2] = some y2 := by
    have q := hf 2 _ rfl
    simpa [cN] using q
  have g3 : DataW.trod enc Tryz.prog w base spare held nf 3 [c3] = some y3 := by
    have q := hf 3 _ rfl
    simpa [cN] using q
  obtain ⟨a0, e0, _, w0⟩ := DataW.trod_int Tryz.underlying3 g0
  obtain ⟨a1, e1, _, w1⟩ := DataW.trod_int Tryz.underlying3 g1
  obtain ⟨a2, e2, _, w2⟩ := DataW.trod_int Tryz.underlying3 g2
  obtain ⟨a3, e3, _, w3⟩ := DataW.trod_int Tryz.underlying3 g3
  simp only [List.cons.injEq, and_true] at e0 e1 e2 e3
  exact ⟨a0, a1, a2, a3, e0, e1, e2, e3, i64_of w0, i64_of w1, i64_of w2, i64_of w3⟩
set_option maxRecDepth 100000 in
theorem trod_cell {n : Nat} {c0 c1 : Value} {y : DataW H × List MemPlace} (h : DataW.trod enc Tryz.prog w base spare held n 42 [c0, c1] = some y) : ∃ r0 r1 : Int, c0 = .int .i64 r0 ∧ c1 = .int .i64 r1 ∧ I64 r0 ∧ I64 r1 := by
  obtain ⟨xs, nf, _, hx, hl, hlen, hf⟩ := DataW.trod_struct Tryz.underlying42 h
  obtain ⟨y0, y1, rfl⟩ := list2 (show xs.length = 2 by simpa using hlen)
  have g0 : DataW.trod enc Tryz.prog w base spare held nf 3 [c0] = some y0 := by
    have q := hf 0 _ rfl
    simpa [cN] using q
  have g1 : DataW.trod enc Tryz.prog w base spare held nf 3 [c1] = some y1 := by
    have q := hf 1 _ rfl
    simpa [cN] using q
  obtain ⟨a0, e0, _, w0⟩ := DataW.trod_int Tryz.underlying3 g0
  obtain ⟨a1, e1, _, w1⟩ := DataW.trod_int Tryz.underlying3 g1
  simp only [List.cons.injEq, and_true] at e0 e1
  exact ⟨a0, a1, e0, e1, i64_of w0, i64_of w1⟩
/-- The numbers of an entry fit. -/
def EnW (x : En) : Prop := I64 x.r ∧ I64 x.k ∧ I64 x.t ∧ I64 x.n ∧ I64 x.c
set_option maxRecDepth 100000 in
theorem trod_ent {n : Nat} {cs : List Value} {y : DataW H × List MemPlace} (h : DataW.trod enc Tryz.prog w base spare held n 44 cs = some y) : ∃ x : En, cs = x.cells.toList ∧ EnW x ∧ 1 ≤ Rows.uptoBulk y.1 := by
  obtain ⟨xs, nf, _, hx, hl, hlen, hf⟩ := DataW.trod_struct Tryz.underlying44 h
  obtain ⟨c0, c1, c2, c3, c4, c5, c6, rfl⟩ := list7 (hl.trans cE)
  obtain ⟨y0, y1, rfl⟩ := list2 (show xs.length = 2 by simpa using hlen)
  have g0 : DataW.trod enc Tryz.prog w base spare held nf 42 [c0, c1] = some y0 := by
    have q := hf 0 _ rfl
    simpa [cL] using q
  have g1 : DataW.trod enc Tryz.prog w base spare held nf 26 [c2, c3, c4, c5, c6] = some y1 := by
    have q := hf 1 _ rfl
    simpa [cV] using q
  obtain ⟨r, k, rfl, rfl, w0, w1⟩ := trod_cell g0
  obtain ⟨t, m, s, b, c, rfl, rfl, rfl, rfl, rfl, w2, w3, w4⟩ := trod_val g1
  exact ⟨⟨r, k, t, m, s, b, c⟩, rfl, ⟨w0, w1, w2, w3, w4⟩, by rw [hx]; simp only [Rows.uptoBulk]; omega⟩
set_option maxRecDepth 100000 in
/-- A slice whose elements come in as x : α. -/
theorem open_list {α : Type} {cells : α → Array Value} {k : Nat} (hk : 0 < k) (x0 : α) {T E : TypeId} (hU : Tryz.prog.underlying T = some (.slice E)) (hcE : Tryz.prog.cellsOf E = k) {Q : α → DataW H → Prop}
    (elem : ∀ {n : Nat} {cs : List Value} {y : DataW H × List MemPlace}, DataW.trod enc Tryz.prog w base spare held n E cs = some y → ∃ x : α, cs = (cells x).toList ∧ Q x y.1)
    {fp : Option Addr} {fn fc : Nat} {fuel : Nat} {d : DataW H} {p : List MemPlace} (g : DataW.trod enc Tryz.prog w base spare held fuel T [.slice fp fn fc] = some (d, p)) :
    ∃ l : List α, View cells k w (.slice fp fn fc) l ∧ l.length = fn ∧ fn ≤ maxLen ∧ ((l = [] ∧ d = .nil) ∨ ∃ elems sp, elems.length = l.length ∧ (∀ (i : Nat) (x : α) (e : DataW H), l[i]? = some x → elems[i]? = some e → Q x e) ∧ d = .slice elems sp) := by
  rcases Go.Deep.open_slice hU g with ⟨h1, h2⟩ | ⟨a, len, cap, m, n, D, Pl, h1, hb, hlc, hcm, hm, h2, hel⟩
  · simp only [List.cons.injEq, Value.slice.injEq, and_true] at h1
    obtain ⟨rfl, rfl, rfl⟩ := h1
    exact ⟨[], ⟨none, 0, rfl, Nat.le_refl _, fun h => absurd h (by simp)⟩, rfl, Nat.zero_le _, .inl ⟨rfl, congrArg Prod.fst h2⟩⟩
  · simp only [List.cons.injEq, Value.slice.injEq, and_true] at h1
    obtain ⟨rfl, rfl, rfl⟩ := h1
    have hlm : fn ≤ m := by rw [hm]; split <;> omega
    have each : ∀ i, i < fn → ∃ x : α, Q x (D i) ∧ ∀ j, j < k → w.cell? ((a.add (i * k)).add j) = (cells x)[j]? := fun i hi => by
      obtain ⟨cs', hc, ht⟩ := hel i (by omega)
      rw [hcE] at hc
      obtain ⟨_, hl4, hcell⟩ := World.cells?_some hc
      obtain ⟨x, rfl, hQ⟩ := elem ht
      exact ⟨x, hQ, fun j hj => by rw [hcell j hj]; simp⟩
    have ha : 0 < fn → a = ⟨a.block, a.off, none⟩ ∧ a.block < w.heap.size := fun h0 => by
      obtain ⟨cs', hc, ht⟩ := hel 0 (by omega)
      rw [hcE] at hc
      obtain ⟨_, hl4, hcell⟩ := World.cells?_some hc
      have h3 := hcell 0 hk
      have hlt : 0 < cs'.length := by omega
      rw [List.getElem?_eq_getElem hlt] at h3
      rw [show (a.add (0 * k)).add 0 = a by simp [Addr.add]] at h3
      have hs := World.cell?_spot h3
      have h4 := World.block_lt_of_cell? w _ h3
      obtain ⟨b, o, s⟩ := a
      simp only at hs
      rw [hs]
      exact ⟨rfl, h4⟩
    classical
    have hex : ∀ i : Nat, ∃ x : α, i < fn → (Q x (D i) ∧ ∀ j, j < k → w.cell? ((a.add (i * k)).add j) = (cells x)[j]?) := fun i => by
      by_cases hi : i < fn
      · obtain ⟨x, hx⟩ := each i hi
        exact ⟨x, fun _ => hx⟩
      · exact ⟨x0, fun h => absurd h hi⟩
    let f : Nat → α := fun i => Classical.choose (hex i)
    have hf2 : ∀ i, i < fn → (Q (f i) (D i) ∧ ∀ j, j < k → w.cell? ((a.add (i * k)).add j) = (cells (f i))[j]?) := fun i => Classical.choose_spec (hex i)
    have hnl : ((List.range fn).map f).length = fn := by simp
    refine ⟨(List.range fn).map f, ⟨some a, fc, by rw [hnl], by rw [hnl]; exact hlc, fun h0 => ?_⟩, hnl, Nat.le_trans hlc hcm, .inr ⟨(List.range fn).map D, (List.range (m - fn)).map (fun j => D (fn + j)), by simp, fun i x e hi he => ?_, ?_⟩⟩
    · rw [hnl] at h0
      refine ⟨a.block, a.off, congrArg some (ha h0).1, (ha h0).2, fun i x hi j hj => ?_⟩
      have hil : i < fn := by have := (List.getElem?_eq_some_iff.1 hi).1; rwa [hnl] at this
      have e : x = f i := by
        rw [List.getElem?_map, List.getElem?_range hil] at hi
        simpa using hi.symm
      rw [e, ← (hf2 i hil).2 j hj]
      congr 1
      rw [Go.Deep.add_add, (ha h0).1]
      simp [Addr.add, Nat.add_assoc]
    · have hil : i < fn := by have := (List.getElem?_eq_some_iff.1 hi).1; rwa [hnl] at this
      rw [List.getElem?_map, List.getElem?_range hil] at hi he
      simp at hi he
      subst hi he
      exact (hf2 i hil).1
    · have h2' := congrArg Prod.fst h2
      simpa using h2'
theorem bulk_len : ∀ (es : List (DataW H)), (∀ e ∈ es, 1 ≤ Rows.uptoBulk e) → es.length ≤ Rows.uptoBulkAll es
  | [], _ => Nat.zero_le _
  | x :: r, h => by
    have h1 := bulk_len r (fun e he => h e (List.mem_cons_of_mem _ he))
    have h2 := h x (List.mem_cons_self ..)
    simp only [Rows.uptoBulkAll, List.length_cons]
    omega
/-- What is known of an argument and its entries. -/
def AgW (w : World) (p : Ag × List En) : Prop := (I64 p.1.t ∧ I64 p.1.n ∧ I64 p.1.c ∧ I64 p.1.r0 ∧ I64 p.1.r1 ∧ I64 p.1.r2 ∧ I64 p.1.r3) ∧ View En.cells 7 w (.slice p.1.ep p.1.en p.1.ec) p.2 ∧ p.2.length = p.1.en ∧ p.1.en ≤ maxLen ∧ ∀ x ∈ p.2, EnW x
theorem AgW.e {w : World} {p : Ag × List En} (h : AgW w p) (hf : p.2.length ≤ 1099511627776) : AgE w p := ⟨h.2.1, fun x hx => (h.2.2.2.2 x hx).2.2.2.1, h.1.2.1, hf⟩
set_option maxRecDepth 100000 in
theorem trod_arg {n : Nat} {cs : List Value} {y : DataW H × List MemPlace} (h : DataW.trod enc Tryz.prog w base spare held n 38 cs = some y) : ∃ x : Ag × List En, cs = (Ag.cells x.1).toList ∧ AgW w x ∧ x.2.length + 1 ≤ Rows.uptoBulk y.1 := by
  obtain ⟨xs, nf, _, hx, hl, hlen, hf⟩ := DataW.trod_struct Tryz.underlying38 h
  obtain ⟨c0, c1, c2, c3, c4, c5, c6, c7, c8, c9, c10, rfl⟩ := list11 (hl.trans cA)
  obtain ⟨y0, y1, y2, y3, rfl⟩ := list4 (show xs.length = 4 by simpa using hlen)
  have g0 : DataW.trod enc Tryz.prog w base spare held nf 4 [c0] = some y0 := by
    have q := hf 0 _ rfl
    simpa [cB] using q
  have g1 : DataW.trod enc Tryz.prog w base spare held nf 26 [c1, c2, c3, c4, c5] = some y1 := by
    have q := hf 1 _ rfl
    simpa [cV] using q
  have g2 : DataW.trod enc Tryz.prog w base spare held nf 35 [c6, c7, c8, c9] = some y2 := by
    have q := hf 2 _ rfl
    simpa [cR] using q
  have g3 : DataW.trod enc Tryz.prog w base spare held nf 36 [c10] = some y3 := by
    have q := hf 3 _ rfl
    simpa [cM] using q
  obtain ⟨mb, e0, _⟩ := DataW.trod_bool Tryz.underlying4 g0
  simp only [List.cons.injEq, and_true] at e0
  subst e0
  obtain ⟨t, m, s, b, c, rfl, rfl, rfl, rfl, rfl, w2, w3, w4⟩ := trod_val g1
  obtain ⟨r0, r1, r2, r3, rfl, rfl, rfl, rfl, w5, w6, w7, w8⟩ := trod_rect g2
  have hsl : ∃ fp fn fc, c10 = .slice fp fn fc := by
    rcases Go.Deep.open_slice Tryz.underlying36 g3 with ⟨h1, _⟩ | ⟨a, len, cap, _, _, _, _, h1, _⟩
    · simp only [List.cons.injEq, and_true] at h1; exact ⟨_, _, _, h1⟩
    · simp only [List.cons.injEq, and_true] at h1; exact ⟨_, _, _, h1⟩
  obtain ⟨fp, fn, fc, rfl⟩ := hsl
  obtain ⟨es, hv, hln, hmx, hd⟩ := open_list (cells := En.cells) (k := 7) (by decide) ⟨0, 0, 0, 0, ⟨#[]⟩, false, 0⟩ Tryz.underlying36 cE (Q := fun x d => EnW x ∧ 1 ≤ Rows.uptoBulk d) (fun ht => by obtain ⟨x, e, h1, h2⟩ := trod_ent ht; exact ⟨x, e, h1, h2⟩) (show DataW.trod enc Tryz.prog w base spare held nf 36 [.slice fp fn fc] = some (y3.1, y3.2) from g3)
  have hEs : ∀ x ∈ es, EnW x := fun x hx => by
    rcases hd with ⟨rfl, _⟩ | ⟨elems, sp, hle, hq, _⟩
    · cases hx
    · obtain ⟨i, hi, rfl⟩ := List.getElem_of_mem hx
      exact (hq i _ _ (List.getElem?_eq_getElem hi) (List.getElem?_eq_getElem (by omega))).1
  refine ⟨(⟨mb, t, m, s, b, c, r0, r1, r2, r3, fp, fn, fc⟩, es), rfl, ⟨⟨w2, w3, w4, w5, w6, w7, w8⟩, hv, hln, hmx, hEs⟩, ?_⟩
  rw [hx]
  rcases hd with ⟨rfl, hn⟩ | ⟨elems, sp, hle, hq, hd⟩
  · simp only [Rows.uptoBulk, List.length_nil]; omega
  · have hb : es.length ≤ Rows.uptoBulkAll elems := by
      rw [← hle]
      refine bulk_len elems (fun e he => ?_)
      obtain ⟨i, hi, rfl⟩ := List.getElem_of_mem he
      exact (hq i _ _ (List.getElem?_eq_getElem (by omega)) (List.getElem?_eq_getElem hi)).2
    simp only [List.map_cons, List.map_nil, Rows.uptoBulk, Rows.uptoBulkAll, hd]
    omega
/-- How many entries there are, and arguments. -/
def tot (l : List (Ag × List En)) : Nat := (l.map (fun p => p.2.length + 1)).sum
theorem tot_bulk : ∀ (l : List (Ag × List En)) (es : List (DataW H)), es.length = l.length → (∀ (i : Nat) (x : Ag × List En) (e : DataW H), l[i]? = some x → es[i]? = some e → x.2.length + 1 ≤ Rows.uptoBulk e) → tot l ≤ Rows.uptoBulkAll es
  | [], es, h, _ => Nat.zero_le _
  | p :: l, [], h, _ => by cases h
  | p :: l, e :: es, h, hq => by
    have h1 := tot_bulk l es (by simpa using h) (fun i x e' hi he => hq (i + 1) x e' (by simpa using hi) (by simpa using he))
    have h2 := hq 0 p e rfl rfl
    simp only [tot, List.map_cons, List.sum_cons, Rows.uptoBulkAll] at h1 ⊢
    omega
set_option maxRecDepth 100000 in
theorem open_arg {v : Value} {d : DataW H} {p : List MemPlace} (hv : Value.okWide Tryz.prog w r b0 38 v) (h : DataW.Trod enc Tryz.prog w base spare held 38 v d p) :
    ∃ x : Ag × List En, v = .agg (Ag.cells x.1) ∧ AgW w x := by
  obtain ⟨cs, rfl, hsz⟩ := okWide_struct Tryz.underlying38 hv
  obtain ⟨fuel, hf⟩ := h
  obtain ⟨x, e, h1, _⟩ := trod_arg (show DataW.trod enc Tryz.prog w base spare held fuel 38 cs.toList = some (d, p) from hf)
  refine ⟨x, ?_, h1⟩
  rw [← Array.toArray_toList (xs := cs), e, Array.toArray_toList]
theorem trod_num {n : Nat} {cs : List Value} {y : DataW H × List MemPlace} (h : DataW.trod enc Tryz.prog w base spare held n 2 cs = some y) : ∃ x : Int, cs = (icell x).toList ∧ I64 x := by
  obtain ⟨t, e0, _, w0⟩ := DataW.trod_int Tryz.underlying2 h
  exact ⟨t, e0, i64_of w0⟩
set_option maxRecDepth 100000 in
theorem open_nums {v : Value} {d : DataW H} {p : List MemPlace} (hv : Value.okWide Tryz.prog w r b0 59 v) (h : DataW.Trod enc Tryz.prog w base spare held 59 v d p) :
    ∃ l : List Int, View icell 1 w v l ∧ (∀ x ∈ l, I64 x) ∧ l.length ≤ maxLen := by
  obtain ⟨fp, fn, fc, rfl⟩ := okWide_slice Tryz.underlying59 hv
  obtain ⟨fuel, hf⟩ := h
  obtain ⟨l, hv, hln, hmx, hd⟩ := open_list (cells := icell) (k := 1) (by decide) 0 Tryz.underlying59 cI (Q := fun x d => I64 x) (fun ht => trod_num ht) (show DataW.trod enc Tryz.prog w base spare held fuel 59 [.slice fp fn fc] = some (d, p) from hf)
  refine ⟨l, hv, fun x hx => ?_, by rw [hln]; exact hmx⟩
  rcases hd with ⟨rfl, _⟩ | ⟨elems, sp, hle, hq, _⟩
  · cases hx
  · obtain ⟨i, hi, rfl⟩ := List.getElem_of_mem hx
    exact hq i _ _ (List.getElem?_eq_getElem hi) (List.getElem?_eq_getElem (by omega))
set_option maxRecDepth 100000 in
theorem open_args {v : Value} {d : DataW H} {p : List MemPlace} (hv : Value.okWide Tryz.prog w r b0 22 v) (h : DataW.Trod enc Tryz.prog w base spare held 22 v d p) :
    ∃ l : List (Ag × List En), AV w v (l.map Prod.fst) ∧ (∀ x ∈ l, AgW w x) ∧ tot l ≤ Rows.uptoBulk d := by
  obtain ⟨fp, fn, fc, rfl⟩ := okWide_slice Tryz.underlying22 hv
  obtain ⟨fuel, hf⟩ := h
  obtain ⟨l, hv, hln, hmx, hd⟩ := open_list (cells := fun x : Ag × List En => Ag.cells x.1) (k := 11) (by decide) (⟨false, 0, 0, ⟨#[]⟩, false, 0, 0, 0, 0, 0, none, 0, 0⟩, []) Tryz.underlying22 cA (Q := fun x d => AgW w x ∧ x.2.length + 1 ≤ Rows.uptoBulk d) (fun ht => by obtain ⟨x, e, h1, h2⟩ := trod_arg ht; exact ⟨x, e, h1, h2⟩) (show DataW.trod enc Tryz.prog w base spare held fuel 22 [.slice fp fn fc] = some (d, p) from hf)
  refine ⟨l, ?_, fun x hx => ?_, ?_⟩
  · obtain ⟨p', c', e, hc, hf⟩ := hv
    refine ⟨p', c', by rw [List.length_map]; exact e, by rw [List.length_map]; exact hc, fun h0 => ?_⟩
    rw [List.length_map] at h0
    obtain ⟨b, o, e2, hlt, hcell⟩ := hf h0
    refine ⟨b, o, e2, hlt, fun i x hi j hj => ?_⟩
    rw [List.getElem?_map] at hi
    obtain ⟨y, hy, rfl⟩ := Option.map_eq_some_iff.1 hi
    exact hcell i y hy j hj
  · rcases hd with ⟨rfl, _⟩ | ⟨elems, sp, hle, hq, _⟩
    · cases hx
    · obtain ⟨i, hi, rfl⟩ := List.getElem_of_mem hx
      exact (hq i _ _ (List.getElem?_eq_getElem hi) (List.getElem?_eq_getElem (by omega))).1
  · rcases hd with ⟨rfl, _⟩ | ⟨elems, sp, hle, hq, rfl⟩
    · exact Nat.zero_le _
    · have := tot_bulk l elems hle (fun i x e hi he => (hq i x e hi he).2)
      simp only [Rows.uptoBulk]
      omega
end
theorem len_tot : ∀ (l : List (Ag × List En)), l.length ≤ tot l
  | [] => Nat.zero_le _
  | p :: l => by have := len_tot l; simp only [tot, List.map_cons, List.sum_cons, List.length_cons] at this ⊢; omega
theorem bulk_app {H : Type} (a b : List (DataW H)) : Rows.uptoBulkAll (a ++ b) = Rows.uptoBulkAll a + Rows.uptoBulkAll b := by
  induction a with
  | nil => simp [Rows.uptoBulkAll]
  | cons x r ih => simp only [List.cons_append, Rows.uptoBulkAll, ih]; omega
theorem bulk_at {H : Type} {d : DataW H} {a m : List (DataW H)} {K : Nat} (h : Rows.uptoBulkAll (a ++ d :: m) ≤ K) : Rows.uptoBulk d ≤ K := by
  rw [bulk_app] at h
  simp only [Rows.uptoBulkAll] at h
  omega
end Oa
end Go.Proofs.YtbpbocgbfeblmaaGreatDoor
namespace Go.Proofs.YtbpbocgbfeblmaaGreatDoor
open Go.RowKit
set_option linter.all false
/-- Is there a fault among arguments? -/
def fltP (p : Ag × List En) : Bool := p.1.t == 4 || p.2.any (fun x => x.t == 4)
def fltB (L : List (Ag × List En)) : Bool := L.any fltP
theorem itms_perm {L M : List (Ag × List En)} (h : L.Perm M) : (itms L).Perm (itms M) := h.flatMap_right itP
theorem numsI_perm {a b : List It} (h : a.Perm b) : (numsI a).Perm (numsI b) := (h.filter _).map _
theorem filI_perm {a b : List It} (h : a.Perm b) : filI a = filI b := (h.filter _).length_eq
theorem itms_rev (L : List (Ag × List En)) : (itms L.reverse).Perm (itms L) := itms_perm (List.reverse_perm L)
theorem itms_tot : ∀ (L : List (Ag × List En)), (itms L).length ≤ Oa.tot L
  | [] => Nat.le_refl _
  | p :: L => by
    have ih := itms_tot L
    unfold itms at ih ⊢
    rw [List.flatMap_cons, List.length_append]
    have h : (itP p).length ≤ p.2.length + 1 := by
      unfold itP
      rw [List.length_append, List.length_map]
      split <;> simp
      omega
    unfold Oa.tot at ih ⊢
    rw [List.map_cons, List.sum_cons]
    omega
theorem Oa.mem_tot {L : List (Ag × List En)} {p : Ag × List En} (h : p ∈ L) : p.2.length + 1 ≤ Oa.tot L := by
  induction L with
  | nil => cases h
  | cons q L ih =>
    have e : Oa.tot (q :: L) = q.2.length + 1 + Oa.tot L := by unfold Oa.tot; rw [List.map_cons, List.sum_cons]
    rcases List.mem_cons.1 h with h | h
    · subst h; omega
    · have := ih h; omega
theorem flt_first {L : List (Ag × List En)} (h : fltB L = false) : firstF (L.map Prod.fst) = none ∧ firstI (itms L) = none := by
  have h1 : ∀ p ∈ L, fltP p = false := fun p hp => by
    cases e : fltP p
    · rfl
    · rw [show fltB L = true from List.any_eq_true.2 ⟨p, hp, e⟩] at h; cases h
  constructor
  · unfold firstF
    rw [List.find?_eq_none]
    intro a ha
    obtain ⟨p, hp, rfl⟩ := List.mem_map.1 ha
    have := h1 p hp
    unfold fltP at this
    rw [Bool.or_eq_false_iff] at this
    rw [this.1]
    simp
  · unfold firstI
    rw [List.find?_eq_none]
    intro x hx
    obtain ⟨p, hp, hx⟩ := List.mem_flatMap.1 hx
    have := h1 p hp
    unfold fltP at this
    rw [Bool.or_eq_false_iff] at this
    unfold itP at hx
    rw [List.mem_append] at hx
    rcases hx with hx | hx
    · have e : x = itA p.1 := by
        revert hx
        cases p.1.many <;> simp
      subst e
      show ¬ (p.1.t == 4) = true
      rw [this.1]; simp
    · obtain ⟨y, hy, rfl⟩ := List.mem_map.1 hx
      have hn := List.any_eq_false.1 this.2 y hy
      exact hn
theorem flt_rev {L : List (Ag × List En)} : fltB L.reverse = fltB L := List.any_reverse
theorem gd_of {W : World} {v : Value} {L : List (Ag × List En)} (hv : AV W v (L.map Prod.fst)) (hE : ∀ p ∈ L, AgE W p) (h0 : 0 < L.length) (h16 : L.length ≤ 16) (hm : L.any mnB = false) (hf : fltB L = false) (ht : Oa.tot L ≤ 1048576) : Gd W v L :=
  ⟨hv, hE, h0, h16, hm, (flt_first hf).1, (flt_first hf).2, by have := itms_tot L; omega⟩
theorem tot_rev (L : List (Ag × List En)) : Oa.tot L.reverse = Oa.tot L := by
  unfold Oa.tot
  exact ((List.reverse_perm L).map _).sum_nat
theorem gd_rev {W : World} {v : Value} {L : List (Ag × List En)} (hv : AV W v (L.reverse.map Prod.fst)) (hE : ∀ p ∈ L, AgE W p) (h0 : 0 < L.length) (h16 : L.length ≤ 16) (hm : L.any mnB = false) (hf : fltB L = false) (ht : Oa.tot L ≤ 1048576) : Gd W v L.reverse :=
  gd_of hv (fun p hp => hE p (List.mem_reverse.1 hp)) (by rw [List.length_reverse]; exact h0) (by rw [List.length_reverse]; exact h16) (by rw [List.any_reverse]; exact hm) (by rw [flt_rev]; exact hf) (by rw [tot_rev]; exact ht)
/-- The names of the law's list. -/
def odS (k : Nat) : ByteArray := match k with | 0 => ⟨#[83, 85, 77]⟩ | 1 => ⟨#[77, 73, 78]⟩ | 2 => ⟨#[77, 65, 88]⟩ | 3 => ⟨#[65, 86, 71]⟩ | 4 => ⟨#[77, 69, 68, 73, 65, 78]⟩ | 5 => ⟨#[67, 79, 85, 78, 84]⟩ | _ => ⟨#[67, 79, 85, 78, 84, 65]⟩
/-- What each of them answers: tag, number, code. -/
def odT (k : Nat) (L : List (Ag × List En)) : Int := if L = [] then 4 else match k with | 0 => smT (numsI (itms L)).sum | 1 => svT (numsI (itms L)) | 2 => svT (numsI (itms L)) | 3 => svT (numsI (itms L)) | 4 => svT (numsI (itms L)) | _ => 1
def odN (k : Nat) (L : List (Ag × List En)) : Int := if L = [] then 0 else match k with | 0 => smN (numsI (itms L)).sum | 1 => svN mnL (numsI (itms L)) | 2 => svN mxL (numsI (itms L)) | 3 => svN avgL (numsI (itms L)) | 4 => svN medL (numsI (itms L)) | 5 => ((numsI (itms L)).length : Int) * 10000 | _ => (filI (itms L) : Int) * 10000
def odC (k : Nat) (L : List (Ag × List En)) : Int := if L = [] then 8 else match k with | 0 => smC (numsI (itms L)).sum | 1 => svC (numsI (itms L)) | 2 => svC (numsI (itms L)) | 3 => svC (numsI (itms L)) | 4 => svC (numsI (itms L)) | _ => 0
theorem sv_perm {a b : List Int} (h : a.Perm b) : svT a = svT b ∧ svC a = svC b ∧ svN mnL a = svN mnL b ∧ svN mxL a = svN mxL b ∧ svN avgL a = svN avgL b ∧ svN medL a = svN medL b := by
  have e : (a = []) ↔ (b = []) := ⟨fun x => by subst x; exact h.nil_eq.symm, fun x => by subst x; exact h.symm.nil_eq.symm⟩
  unfold svT svC svN
  simp only [e, perm_mn h, perm_mx h, perm_avg h, perm_med h]
  simp
theorem od_rev (k : Nat) (L : List (Ag × List En)) : odT k L.reverse = odT k L ∧ odN k L.reverse = odN k L ∧ odC k L.reverse = odC k L := by
  have p := numsI_perm (itms_rev L)
  have f := filI_perm (itms_rev L)
  obtain ⟨h1, h2, h3, h4, h5, h6⟩ := sv_perm p
  have hs := perm_sum p
  have hl := p.length_eq
  unfold odT odN odC
  simp only [List.reverse_eq_nil_iff, hs, hl, f, h1, h2, h3, h4, h5, h6]
  simp
/-- The law's two lists of arguments, as they stand. -/
def OkG (L : List (Ag × List En)) (W : World) (g : Value) : Prop := (L = [] ∧ ∃ q c, g = .slice q 0 c) ∨ Gd W g L ∨ Gd W g L.reverse
theorem OkG.keep {L : List (Ag × List En)} {W W' : World} {g : Value} (h : OkG L W g) (hb : Below W.heap.size W W') : OkG L W' g := by
  rcases h with h | h | h
  · exact Or.inl h
  · exact Or.inr (Or.inl (h.keep hb))
  · exact Or.inr (Or.inr (h.keep hb))
theorem od_gd (k : Nat) (hk : k < 7) {W : World} {v : Value} {L : List (Ag × List En)} (g : Gd W v L) : Calls Tryz.prog 6 #[.string (odS k), v, .int .i64 0] W fun e w' => e = .returned (.agg #[.int .i64 (odT k L), .int .i64 (odN k L), .string ⟨#[]⟩, .bool false, .int .i64 (odC k L)]) ∧ Below W.heap.size W w' := by
  have hL : ¬ L = [] := fun e => by have := g.h0; rw [e] at this; exact absurd this (by decide)
  unfold odT odN odC
  rw [if_neg hL, if_neg hL, if_neg hL]
  match k, hk with
  | 0, _ => exact sum_all g
  | 1, _ => exact min_all g
  | 2, _ => exact max_all g
  | 3, _ => exact avg_all g
  | 4, _ => exact median_all g
  | 5, _ => exact count_all g
  | 6, _ => exact counta_all g
theorem od_nil (k : Nat) (hk : k < 7) (W : World) (q : Option Addr) (c : Nat) : Calls Tryz.prog 6 #[.string (odS k), .slice q 0 c, .int .i64 0] W fun e w' => e = .returned (.agg #[.int .i64 (4), .int .i64 (0), .string ⟨#[]⟩, .bool false, .int .i64 (8)]) ∧ Below W.heap.size W w' := by
  have hv : AV W (.slice q 0 c) (([] : List (Ag × List En)).map Prod.fst) := ⟨q, c, rfl, Nat.zero_le _, fun h => absurd h (Nat.lt_irrefl _)⟩
  have h1 : nmI (odS k) < 18 ∧ takB (plI (nmI (odS k))) (moI (nmI (odS k))) [] = false := by
    match k, hk with
    | 0, _ => exact ⟨by decide, by decide⟩
    | 1, _ => exact ⟨by decide, by decide⟩
    | 2, _ => exact ⟨by decide, by decide⟩
    | 3, _ => exact ⟨by decide, by decide⟩
    | 4, _ => exact ⟨by decide, by decide⟩
    | 5, _ => exact ⟨by decide, by decide⟩
    | 6, _ => exact ⟨by decide, by decide⟩
  exact c_tk (odS k) W _ 0 [] hv (show Hid _ from fun a ha => by cases ha) (by decide) (show Hid _ from fun p hp => by cases hp) h1.1 (by decide) (by decide) h1.2
theorem od_call (k : Nat) (hk : k < 7) {W : World} {v : Value} {L : List (Ag × List En)} (g : OkG L W v) : Calls Tryz.prog 6 #[.string (odS k), v, .int .i64 0] W fun e w' => e = .returned (.agg #[.int .i64 (odT k L), .int .i64 (odN k L), .string ⟨#[]⟩, .bool false, .int .i64 (odC k L)]) ∧ Below W.heap.size W w' := by
  rcases g with ⟨rfl, q, c, rfl⟩ | g | g
  · exact od_nil k hk W q c
  · exact od_gd k hk g
  · have h := od_gd k hk g
    rw [(od_rev k L).1, (od_rev k L).2.1, (od_rev k L).2.2] at h
    exact h
theorem flt_none {L : List (Ag × List En)} {i : Nat} {x : Ag × List En} (h : L[i]? = some x) (h1 : fltB (L.take i) = false) (h2 : fltP x = false) : fltB (L.take (i + 1)) = false := by
  unfold fltB at h1 ⊢
  rw [any_snoc h, h1, h2]; rfl
theorem flt_some {L : List (Ag × List En)} {i : Nat} {x : Ag × List En} (h : L[i]? = some x) (h2 : fltP x = true) : fltB L = true := List.any_eq_true.2 ⟨x, List.mem_of_getElem? h, h2⟩
theorem en_some {x : Ag × List En} {k : Nat} {y : En} (h : x.2[k]? = some y) (h2 : y.t = 4) : fltP x = true := by
  unfold fltP
  rw [show x.2.any (fun x => x.t == 4) = true from List.any_eq_true.2 ⟨y, List.mem_of_getElem? h, by simp [h2]⟩, Bool.or_true]
theorem en_none {es : List En} {k : Nat} {y : En} (h : es[k]? = some y) (h1 : (es.take k).any (fun x => x.t == 4) = false) (h2 : ¬ y.t = 4) : (es.take (k + 1)).any (fun x => x.t == 4) = false := by
  rw [any_snoc h, h1]
  simp [h2]
set_option maxRecDepth 100000 in
set_option maxHeartbeats 1000000 in
theorem faulty_y (w : World) (b o c n : Nat) (L : List (Ag × List En)) (HA : ∀ i x, L[i]? = some x → ∀ j, j < 11 → w.cell? ⟨b, o + i * 11 + j, none⟩ = (Ag.cells x.1)[j]?) (hn : L.length = n) (hc : n ≤ c) (hl : n ≤ 9223372036854775807) (hE : Hid (∀ p ∈ L, AgE w p)) :
    Calls Tryz.prog 10 #[.slice (some ⟨b, o, none⟩) n c] w fun e w' => e = .returned (.bool (fltB L)) ∧ Below w.heap.size w w' := by
  have HA' : Hid _ := HA
  have HL : Hid (L.length = n) := hn
  clear HA hn
  go_enter Tryz.func10, Tryz.ntmps10
  go_wp2
  go_loop [3] (fun j => ∃ (i : Nat), j = .int .i64 i ∧ i ≤ n ∧ Hid (fltB (L.take i) = false)) (fun j => n - (intOf j).toNat)
  case atStart => exact ⟨0, rfl, by omega, (show Hid _ from rfl)⟩
  case round =>
    obtain ⟨i, rfl, hii, hf⟩ := hrel
    by_cases hlt : i < n
    · have hlt' : (i : Int) < n := by omega
      have hai : L[i]? = some (L[i]'(by rw [HL.out]; exact hlt)) := List.getElem?_eq_getElem _
      have hag := hE.out _ (List.mem_of_getElem? hai)
      have x1 : w.cell? ⟨b, o + i * 11 + 1, none⟩ = _ := HA'.out i _ hai 1 (by decide)
      have x10 : w.cell? ⟨b, o + i * 11 + 10, none⟩ = _ := HA'.out i _ hai 10 (by decide)
      have HAi : Hid _ := hai
      have HG : Hid _ := hag
      revert x1 x10 HAi HG
      clear hai hag
      generalize (L[i]'(by rw [HL.out]; exact hlt)) = x
      intro x1 x10 HAi HG
      have y1 : w.cell? ⟨b, o + i * 11 + 1, none⟩ = some (.int .i64 x.1.t) := x1
      have y10 : w.cell? ⟨b, o + i * 11 + 10, none⟩ = some (.slice x.1.ep x.1.en x.1.ec) := x10
      clear x1 x10
      by_cases ht : x.1.t = 4
      · have HT : Hid (fltP x = true) := (show _ from by unfold fltP; rw [ht]; rfl)
        rw [ht] at y1
        clear ht
        go_wp2
        go_ret
        exact ⟨retBl (flt_some HAi.out HT.out).symm, Below.refl _ _⟩
      · have ht' : (x.1.t == 4) = false := by simpa using ht
        have HT : Hid (¬ x.1.t = 4) := ht
        clear ht
        go_wp2
        go_loop [4] (fun j => ∃ (k : Nat), j = .int .i64 k ∧ k ≤ x.1.en ∧ Hid ((x.2.take k).any (fun x => x.t == 4) = false)) (fun j => x.1.en - (intOf j).toNat)
        case atStart => exact ⟨0, rfl, by omega, (show Hid _ from rfl)⟩
        case round =>
          obtain ⟨k, rfl, hkk, hg⟩ := hrel
          obtain ⟨p, cap, e0, hcap, hfe⟩ := HG.out.vw
          injection e0 with e1 e2 e3
          have hl2 := HG.out.few
          by_cases hlk : k < x.1.en
          · have hlk' : (k : Int) < x.1.en := by omega
            obtain ⟨eb, eo, hp, hla, hcell⟩ := hfe (by omega)
            rw [e1, hp] at y10
            have hek : x.2[k]? = some (x.2[k]'(by omega)) := List.getElem?_eq_getElem _
            have z2 : w.cell? ⟨eb, eo + k * 7 + 2, none⟩ = _ := hcell k _ hek 2 (by decide)
            have HEk : Hid _ := hek
            revert z2 HEk
            clear hek hcell hfe
            generalize (x.2[k]'(by omega)) = y
            intro z2 HEk
            have z2' : w.cell? ⟨eb, eo + k * 7 + 2, none⟩ = some (.int .i64 y.t) := z2
            clear z2
            have hc1 : x.1.en ≤ x.1.ec := by omega
            have h40 : x.1.en ≤ 1099511627776 := by omega
            clear e1 e2 e3 hp hl2 hcap hla
            by_cases hy : y.t = 4
            · have HY : Hid (fltP x = true) := (show _ from en_some HEk.out hy)
              rw [hy] at z2'
              clear hy
              go_wp2
              go_ret
              exact ⟨retBl (flt_some HAi.out HY.out).symm, Below.refl _ _⟩
            · have hy' : (y.t == 4) = false := by simpa using hy
              have HY : Hid (¬ y.t = 4) := hy
              clear hy
              go_wp2
              exact ⟨⟨k + 1, by go_num, by omega, (show Hid _ from en_none HEk.out hg.out HY.out)⟩, by simp [intOf]; omega⟩
          · have hlk' : ¬ (k : Int) < x.1.en := by omega
            have q : x.2.take k = x.2 := List.take_of_length_le (by omega)
            have HP : Hid (fltP x = false) := (show _ from by unfold fltP; have := hg.out; rw [q] at this; rw [this, ht']; rfl)
            clear e1 e2 e3 hfe
            go_wp2
            exact ⟨⟨i + 1, by go_num, by omega, (show Hid _ from flt_none HAi.out hf.out HP.out)⟩, by simp [intOf]; omega⟩
    · have hlt' : ¬ (i : Int) < n := by omega
      have q : L.take i = L := List.take_of_length_le (by rw [HL.out]; omega)
      have hq := hf.out
      rw [q] at hq
      clear hf
      have HQ : Hid _ := hq
      clear hq
      go_wp2
      go_ret
      exact ⟨retBl HQ.out.symm, Below.refl _ _⟩
theorem faulty_0 (w : World) (p : Option Addr) (c : Nat) : Calls Tryz.prog 10 #[.slice p 0 c] w fun e w' => e = .returned (.bool false) ∧ Below w.heap.size w w' := by
  go_enter Tryz.func10, Tryz.ntmps10
  go_wp2
  go_loop [3] (fun j => j = .int .i64 0) (fun _ => 0)
  case atStart => rfl
  case round =>
    obtain rfl := hrel
    go_wp2
    go_ret
    exact ⟨rfl, Below.refl _ _⟩
theorem faulty_any (w : World) (v : Value) (L : List (Ag × List En)) (h : AV w v (L.map Prod.fst)) (hl : L.length ≤ 1099511627776) (hE : Hid (∀ p ∈ L, AgE w p)) : Calls Tryz.prog 10 #[v] w fun e w' => e = .returned (.bool (fltB L)) ∧ Below w.heap.size w w' := by
  obtain ⟨p, c, rfl, hc, hf⟩ := h
  rw [List.length_map] at hc hf
  rw [List.length_map]
  by_cases h0 : 0 < L.length
  · obtain ⟨b, o, rfl, hlt, HA⟩ := hf h0
    exact faulty_y w b o c L.length L (fun i x hx j hj => HA i x.1 (by rw [List.getElem?_map, hx]; rfl) j hj) rfl hc (by omega) hE
  · have e : L = [] := List.eq_nil_of_length_eq_zero (by omega)
    subst e
    exact faulty_0 w p c
end Go.Proofs.YtbpbocgbfeblmaaGreatDoor
