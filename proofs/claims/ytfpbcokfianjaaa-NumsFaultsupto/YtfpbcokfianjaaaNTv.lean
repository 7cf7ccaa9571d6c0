/- How a list of values comes in, and its bulk. -/
import Derived.Test.YtfpbcokfianjaaaNTn
import Derived.Test.YtfpbcokfianjaaaNTo
import Derived.Lay
import Derived.Stop.LaidErr
import Derived.LaidOnce
import Derived.SevenTiedAt
namespace Go.Proofs.Ytfpbcokfianjaaa
open Go.RowKit Go.ChangeShapes Go.WideShapes Go.ChangeAt
set_option linter.all false
theorem cellsV5 : Try.prog.cellsOf 31 = 5 := by kernel_rfl
theorem cellsTg : Try.prog.cellsOf 28 = 1 := by kernel_rfl
theorem cellsL64 : Try.prog.cellsOf 2 = 1 := by kernel_rfl
theorem cellsSt : Try.prog.cellsOf 9 = 1 := by kernel_rfl
theorem cellsCd : Try.prog.cellsOf 29 = 1 := by kernel_rfl
theorem rowVals : 26 < Try.prog.types.size := of_decide_eq_true (by kernel_rfl)
theorem list5 {α : Type} {l : List α} (h : l.length = 5) : ∃ a b c d e, l = [a, b, c, d, e] := by
  match l, h with
  | [a, b, c, d, e], _ => exact ⟨a, b, c, d, e, rfl⟩
section
variable {H : Type} {enc : TypeId × Value → H} {w : World} {base : Nat} {spare : Nat → Bool} {held : Bool} {r : Reach} {b0 : Nat}
set_option maxRecDepth 100000 in
theorem trod_val {n : Nat} {cs : List Value} {y : DataW H × List MemPlace} (h : DataW.trod enc Try.prog w base spare held n 31 cs = some y) : ∃ x : Vl, cs = x.cells.toList ∧ I64 x.n ∧ ∃ ps, y.1 = .agg ps := by
  obtain ⟨xs, nf, _, hx, hl, hlen, hf⟩ := DataW.trod_struct Try.underlying31 h
  obtain ⟨c0, c1, c2, c3, c4, rfl⟩ := list5 (hl.trans cellsV5)
  obtain ⟨y0, y1, y2, y3, y4, rfl⟩ := list5 (show xs.length = 5 by simpa using hlen)
  have g0 : DataW.trod enc Try.prog w base spare held nf 28 [c0] = some y0 := by
    have q := hf 0 _ rfl
    simpa [cellsTg] using q
  have g1 : DataW.trod enc Try.prog w base spare held nf 2 [c1] = some y1 := by
    have q := hf 1 _ rfl
    simpa [cellsL64] using q
  have g2 : DataW.trod enc Try.prog w base spare held nf 9 [c2] = some y2 := by
    have q := hf 2 _ rfl
    simpa [cellsSt] using q
  have g3 : DataW.trod enc Try.prog w base spare held nf 4 [c3] = some y3 := by
    have q := hf 3 _ rfl
    simpa [cellsB1] using q
  have g4 : DataW.trod enc Try.prog w base spare held nf 29 [c4] = some y4 := by
    have q := hf 4 _ rfl
    simpa [cellsCd] using q
  obtain ⟨t, e0, _, _⟩ := DataW.trod_int Try.underlying28 g0
  obtain ⟨m, e1, _, w1⟩ := DataW.trod_int Try.underlying2 g1
  obtain ⟨s, e2, _, _⟩ := DataW.trod_string Try.underlying9 g2
  obtain ⟨b, e3, _⟩ := DataW.trod_bool Try.underlying4 g3
  obtain ⟨c, e4, _, _⟩ := DataW.trod_int Try.underlying29 g4
  simp only [List.cons.injEq, and_true] at e0 e1 e2 e3 e4
  subst e0 e1 e2 e3 e4
  exact ⟨⟨t, m, s, b, c⟩, rfl, i64_of w1, _, congrArg Prod.fst hx⟩
set_option maxRecDepth 100000 in
theorem open_vals {v : Value} {d : DataW H} {p : List MemPlace} (hv : Value.okWide Try.prog w r b0 26 v) (h : DataW.Trod enc Try.prog w base spare held 26 v d p) :
    ∃ l : List Vl, VV w v l ∧ (∀ x ∈ l, I64 x.n) ∧ (l = [] ∨ ∃ elems sp, elems.length = l.length ∧ (∀ e ∈ elems, ∃ ps, e = .agg ps) ∧ d = .slice elems sp) := by
  obtain ⟨fp, fn, fc, rfl⟩ := okWide_slice Try.underlying26 hv
  obtain ⟨fuel, hf⟩ := h
  have g : DataW.trod enc Try.prog w base spare held fuel 26 [.slice fp fn fc] = some (d, p) := hf
  rcases Go.Deep.open_slice Try.underlying26 g with ⟨h1, _⟩ | ⟨a, len, cap, m, n, D, Pl, h1, hb, hlc, hcm, hm, h2, hel⟩
  · simp only [List.cons.injEq, Value.slice.injEq, and_true] at h1
    obtain ⟨rfl, rfl, rfl⟩ := h1
    exact ⟨[], ⟨none, 0, rfl, Nat.le_refl _, fun h => absurd h (by simp)⟩, (fun x hx => by cases hx), .inl rfl⟩
  · simp only [List.cons.injEq, Value.slice.injEq, and_true] at h1
    obtain ⟨rfl, rfl, rfl⟩ := h1
    have hlm : fn ≤ m := by rw [hm]; split <;> omega
    have each : ∀ i, i < fn → ∃ x : Vl, (∃ ps, D i = .agg ps) ∧ I64 x.n ∧ ∀ j, j < 5 → w.cell? ((a.add (i * 5)).add j) = (Vl.cells x)[j]? := fun i hi => by
      obtain ⟨cs', hc, ht⟩ := hel i (by omega)
      rw [cellsV5] at hc
      obtain ⟨_, hl4, hcell⟩ := World.cells?_some hc
      obtain ⟨x, rfl, hw, ps, hp⟩ := trod_val ht
      exact ⟨x, ⟨ps, hp⟩, hw, fun j hj => by rw [hcell j hj]; simp⟩
    have ha : 0 < fn → a = ⟨a.block, a.off, none⟩ := fun h0 => by
      obtain ⟨x, _, _, hc⟩ := each 0 h0
      have h3 := hc 0 (by decide)
      rw [show (a.add (0 * 5)).add 0 = a by simp [Addr.add]] at h3
      have hs := World.cell?_spot h3
      obtain ⟨b, o, s⟩ := a
      simp only at hs
      rw [hs]
    classical
    have hex : ∀ i : Nat, ∃ x : Vl, i < fn → ((∃ ps, D i = .agg ps) ∧ I64 x.n ∧ ∀ j, j < 5 → w.cell? ((a.add (i * 5)).add j) = (Vl.cells x)[j]?) := fun i => by
      by_cases hi : i < fn
      · obtain ⟨x, hx⟩ := each i hi
        exact ⟨x, fun _ => hx⟩
      · exact ⟨vl0, fun h => absurd h hi⟩
    let f : Nat → Vl := fun i => Classical.choose (hex i)
    have hf2 : ∀ i, i < fn → ((∃ ps, D i = .agg ps) ∧ I64 (f i).n ∧ ∀ j, j < 5 → w.cell? ((a.add (i * 5)).add j) = (Vl.cells (f i))[j]?) := fun i => Classical.choose_spec (hex i)
    have hnl : ((List.range fn).map f).length = fn := by simp
    refine ⟨(List.range fn).map f, ⟨some a, fc, by rw [hnl], by rw [hnl]; exact hlc, fun h0 => ?_⟩, fun x hx => ?_, .inr ⟨(List.range fn).map D, (List.range (m - fn)).map (fun j => D (fn + j)), by simp, fun e he => ?_, ?_⟩⟩
    · rw [hnl] at h0
      refine ⟨a.block, a.off, congrArg some (ha h0), ?_, fun i x hi j hj => ?_⟩
      · obtain ⟨_, _, hc⟩ := hf2 0 h0
        have h3 := hc 0 (by decide)
        have h4 := World.block_lt_of_cell? w _ h3
        simpa [Addr.add] using h4
      · have hil : i < fn := by have := (List.getElem?_eq_some_iff.1 hi).1; rwa [hnl] at this
        have e : x = f i := by
          rw [List.getElem?_map, List.getElem?_range hil] at hi
          simpa using hi.symm
        rw [e, ← (hf2 i hil).2.2 j hj]
        congr 1
        rw [Go.Deep.add_add, ha h0]
        simp [Addr.add, Nat.add_assoc]
    · obtain ⟨i, hi, rfl⟩ := List.mem_map.1 hx
      exact (hf2 i (by simpa using hi)).2.1
    · obtain ⟨i, hi, rfl⟩ := List.mem_map.1 he
      exact (hf2 i (by simpa using hi)).1
    · have h2' := congrArg Prod.fst h2
      simpa using h2'
end
theorem bulk_vals {H : Type} {l : List Vl} {d : DataW H} {a m : List (DataW H)} (h : Rows.uptoBulkAll (a ++ d :: m) ≤ 1048576) (hd : l = [] ∨ ∃ elems sp, elems.length = l.length ∧ (∀ e ∈ elems, ∃ ps, e = .agg ps) ∧ d = .slice elems sp) : l.length ≤ 1048576 := by
  have happ : ∀ a b : List (DataW H), Rows.uptoBulkAll (a ++ b) = Rows.uptoBulkAll a + Rows.uptoBulkAll b := by
    intro a b
    induction a with
    | nil => simp [Rows.uptoBulkAll]
    | cons x r ih => simp only [List.cons_append, Rows.uptoBulkAll, ih]; omega
  have hall : ∀ es : List (DataW H), (∀ e ∈ es, ∃ ps, e = .agg ps) → es.length ≤ Rows.uptoBulkAll es := by
    intro es
    induction es with
    | nil => intro _; simp
    | cons x r ih =>
      intro hx
      have h1 := ih (fun e he => hx e (List.mem_cons_of_mem _ he))
      obtain ⟨ps, rfl⟩ := hx x (List.mem_cons_self ..)
      simp only [Rows.uptoBulkAll, Rows.uptoBulk, List.length_cons]
      omega
  rcases hd with rfl | ⟨elems, sp, hl, he, rfl⟩
  · simp
  · rw [happ] at h
    simp only [Rows.uptoBulkAll, Rows.uptoBulk] at h
    have := hall elems he
    omega
theorem nf_all (s : ByteArray) (v : Value) (vs : List Vl) (tx : Int) (w : World) (hv : VV w v vs) (hN : ∀ x ∈ vs, I64 x.n) (hl : vs.length ≤ 1048576) : Calls Try.prog 4 #[.string s, v, .int .i64 tx] w fun e w' => e = .returned (.bool true) ∧ Below w.heap.size w w' := by
  obtain ⟨rt, rn, rs, rb, rc, ⟨hm, hrn⟩, hc, h1, h2⟩ := nf_facts s vs hN hl
  obtain ⟨p, c, rfl, hcap, hf⟩ := hv
  by_cases h0 : 0 < vs.length
  · obtain ⟨b, o, rfl, hlt, HA⟩ := hf h0
    exact nf_loop s tx w b o c vs.length vs hlt HA rfl hcap h0 hl hN rt rn rs rb rc hm hrn hc h1 h2
  · have e : vs.length = 0 := by omega
    have e2 : vs = [] := List.eq_nil_of_length_eq_zero e
    have q := nf_0 s tx w p c vs.length vs e2 e rt rn rs rb rc hm hrn hc h1 h2
    rw [e]
    exact q
end Go.Proofs.Ytfpbcokfianjaaa
