/- How deeds and cells come in: lists, each deed with its references; how much they hold. No function's text is walked here. -/
import Derived.Test.YtgojnijpjfdocaaGreatGA
import Derived.ProofKit
import Derived.OpenShut
import Derived.ShutString
import Derived.Deep.Slices
import Derived.Deep.DeepHandedRow
import Derived.SizedLaws
import Derived.WideKeyArgs
import Derived.JoinedCond
namespace Go.Proofs.YtgojnijpjfdocaaGreat
open Go.RowKit Go.ChangeShapes Go.WideShapes Go.ChangeAt
set_option linter.all false
theorem laidOutD : laidOutB Tryz.prog = true := by kernel_rfl
theorem cellsFr : Tryz.prog.cellsOf 50 = 5 := by kernel_rfl
theorem cellsFs : Tryz.prog.cellsOf 30 = 1 := by kernel_rfl
theorem cellsDd : Tryz.prog.cellsOf 35 = 3 := by kernel_rfl
theorem cellsBo : Tryz.prog.cellsOf 4 = 1 := by kernel_rfl
theorem rowDeeds : 22 < Tryz.prog.types.size := of_decide_eq_true (by kernel_rfl)
theorem rowCellsD : 23 < Tryz.prog.types.size := of_decide_eq_true (by kernel_rfl)
theorem ll2 {α : Type} {l : List α} (h : l.length = 2) : ∃ a b, l = [a, b] := by
  match l, h with
  | [a, b], _ => exact ⟨a, b, rfl⟩
theorem ll3 {α : Type} {l : List α} (h : l.length = 3) : ∃ a b c, l = [a, b, c] := by
  match l, h with
  | [a, b, c], _ => exact ⟨a, b, c, rfl⟩
theorem ll4 {α : Type} {l : List α} (h : l.length = 4) : ∃ a b c d, l = [a, b, c, d] := by
  match l, h with
  | [a, b, c, d], _ => exact ⟨a, b, c, d, rfl⟩
theorem ll5 {α : Type} {l : List α} (h : l.length = 5) : ∃ a b c d e, l = [a, b, c, d, e] := by
  match l, h with
  | [a, b, c, d, e], _ => exact ⟨a, b, c, d, e, rfl⟩
/-- A list that came in. -/
def LV {α : Type} (cs : α → List Value) (k : Nat) (w : World) (v : Value) (l : List α) : Prop := ∃ p cap, v = .slice p l.length cap ∧ l.length ≤ cap ∧ cap ≤ 9223372036854775807 ∧ (0 < l.length → ∃ b o, p = some ⟨b, o, none⟩ ∧ b < w.heap.size ∧ ∀ i x, l[i]? = some x → ∀ j u, (cs x)[j]? = some u → w.cell? ⟨b, o + i * k + j, none⟩ = some u)
section
variable {H : Type} {enc : TypeId × Value → H} {w : World} {base : Nat} {spare : Nat → Bool} {held : Bool} {r : Reach} {b0 : Nat}
set_option maxRecDepth 100000 in
theorem open_lst {α : Type} {cs : α → List Value} {k : Nat} (hk : 0 < k) (hc : ∀ x, (cs x).length = k) (x0 : α) {T E : TypeId} (hU : Tryz.prog.underlying T = some (.slice E)) (hcE : Tryz.prog.cellsOf E = k) {Q : α → DataW H → Prop}
    (elem : ∀ {n : Nat} {c : List Value} {y : DataW H × List MemPlace}, DataW.trod enc Tryz.prog w base spare held n E c = some y → ∃ x : α, c = cs x ∧ Q x y.1)
    {fp : Option Addr} {fn fc : Nat} {fuel : Nat} {d : DataW H} {p : List MemPlace} (g : DataW.trod enc Tryz.prog w base spare held fuel T [.slice fp fn fc] = some (d, p)) :
    ∃ l : List α, LV cs k w (.slice fp fn fc) l ∧ l.length = fn ∧ ((l = [] ∧ d = .nil) ∨ ∃ elems sp, elems.length = l.length ∧ (∀ (i : Nat) (x : α) (e : DataW H), l[i]? = some x → elems[i]? = some e → Q x e) ∧ d = .slice elems sp) := by
  rcases Go.Deep.open_slice hU g with ⟨h1, h2⟩ | ⟨a, len, cap, m, n, D, Pl, h1, hb, hlc, hcm, hm, h2, hel⟩
  · simp only [List.cons.injEq, Value.slice.injEq, and_true] at h1
    obtain ⟨rfl, rfl, rfl⟩ := h1
    exact ⟨[], ⟨none, 0, rfl, Nat.le_refl _, Nat.zero_le _, fun h => absurd h (by simp)⟩, rfl, .inl ⟨rfl, congrArg Prod.fst h2⟩⟩
  · simp only [List.cons.injEq, Value.slice.injEq, and_true] at h1
    obtain ⟨rfl, rfl, rfl⟩ := h1
    have hlm : fn ≤ m := by rw [hm]; split <;> omega
    have each : ∀ i, i < fn → ∃ x : α, Q x (D i) ∧ ∀ j u, (cs x)[j]? = some u → w.cell? ((a.add (i * k)).add j) = some u := fun i hi => by
      obtain ⟨cs', hc', ht⟩ := hel i (by omega)
      rw [hcE] at hc'
      obtain ⟨_, hl4, hcell⟩ := World.cells?_some hc'
      obtain ⟨x, rfl, hQ⟩ := elem ht
      refine ⟨x, hQ, fun j u hu => ?_⟩
      have hj : j < k := by rw [← hc x]; exact (List.getElem?_eq_some_iff.1 hu).1
      rw [hcell j hj]
      exact hu
    have ha : 0 < fn → a = ⟨a.block, a.off, none⟩ ∧ a.block < w.heap.size := fun h0 => by
      obtain ⟨cs', hc', ht⟩ := hel 0 (by omega)
      rw [hcE] at hc'
      obtain ⟨_, hl4, hcell⟩ := World.cells?_some hc'
      have h3 := hcell 0 hk
      have hlt : 0 < cs'.length := by omega
      rw [List.getElem?_eq_getElem hlt] at h3
      rw [show (a.add (0 * k)).add 0 = a by simp [Addr.add]] at h3
      have hs := World.cell?_spot h3
      have h4 := World.block_lt_of_cell? w _ h3
      obtain ⟨b, o, s⟩ := a
      simp only at hs
      rw [hs]
      exact ⟨rfl, h4⟩
    classical
    have hex : ∀ i : Nat, ∃ x : α, i < fn → (Q x (D i) ∧ ∀ j u, (cs x)[j]? = some u → w.cell? ((a.add (i * k)).add j) = some u) := fun i => by
      by_cases hi : i < fn
      · obtain ⟨x, hx⟩ := each i hi
        exact ⟨x, fun _ => hx⟩
      · exact ⟨x0, fun h => absurd h hi⟩
    let f : Nat → α := fun i => Classical.choose (hex i)
    have hf2 : ∀ i, i < fn → (Q (f i) (D i) ∧ ∀ j u, (cs (f i))[j]? = some u → w.cell? ((a.add (i * k)).add j) = some u) := fun i => Classical.choose_spec (hex i)
    have hnl : ((List.range fn).map f).length = fn := by simp
    refine ⟨(List.range fn).map f, ⟨some a, fc, by rw [hnl], by rw [hnl]; exact hlc, by unfold maxLen at hcm; omega, fun h0 => ?_⟩, hnl, .inr ⟨(List.range fn).map D, (List.range (m - fn)).map (fun j => D (fn + j)), by simp, fun i x e hi he => ?_, ?_⟩⟩
    · rw [hnl] at h0
      refine ⟨a.block, a.off, congrArg some (ha h0).1, (ha h0).2, fun i x hi j u hu => ?_⟩
      have hil : i < fn := by have := (List.getElem?_eq_some_iff.1 hi).1; rwa [hnl] at this
      have e : x = f i := by
        rw [List.getElem?_map, List.getElem?_range hil] at hi
        simpa using hi.symm
      rw [e] at hu
      rw [← (hf2 i hil).2 j u hu]
      congr 1
      rw [Go.Deep.add_add, (ha h0).1]
      simp [Addr.add, Nat.add_assoc]
    · have hil : i < fn := by have := (List.getElem?_eq_some_iff.1 hi).1; rwa [hnl] at this
      rw [List.getElem?_map, List.getElem?_range hil] at hi he
      simp at hi he
      subst hi he
      exact (hf2 i hil).1
    · have h2' := congrArg Prod.fst h2
      simpa using h2'
theorem bulk_len : ∀ (es : List (DataW H)), (∀ e ∈ es, 1 ≤ Rows.uptoBulk e) → es.length ≤ Rows.uptoBulkAll es
  | [], _ => Nat.zero_le _
  | x :: r, h => by
    have h1 := bulk_len r (fun e he => h e (List.mem_cons_of_mem _ he))
    have h2 := h x (List.mem_cons_self ..)
    simp only [Rows.uptoBulkAll, List.length_cons]
    omega
theorem list_bulk {α : Type} {l : List α} {d : DataW H} {Q : α → DataW H → Prop} (h : (l = [] ∧ d = .nil) ∨ ∃ elems sp, elems.length = l.length ∧ (∀ (i : Nat) (x : α) (e : DataW H), l[i]? = some x → elems[i]? = some e → Q x e) ∧ d = .slice elems sp) (hq : ∀ x e, Q x e → 1 ≤ Rows.uptoBulk e) : l.length + 1 ≤ Rows.uptoBulk d := by
  rcases h with ⟨rfl, rfl⟩ | ⟨elems, sp, hle, hQ, rfl⟩
  · simp only [Rows.uptoBulk, List.length_nil]; omega
  · have hb : l.length ≤ Rows.uptoBulkAll elems := by
      rw [← hle]
      refine bulk_len elems (fun e he => ?_)
      obtain ⟨i, hi, rfl⟩ := List.getElem_of_mem he
      exact hq _ _ (hQ i _ _ (List.getElem?_eq_getElem (by omega)) (List.getElem?_eq_getElem hi))
    simp only [Rows.uptoBulk]
    omega
set_option maxRecDepth 100000 in
theorem trodC {n : Nat} {c : List Value} {y : DataW H × List MemPlace} (h : DataW.trod enc Tryz.prog w base spare held n 33 c = some y) : ∃ x : Cl, c = Cl.cs x ∧ ((I64 x.r ∧ I64 x.c) ∧ 1 ≤ Rows.uptoBulk y.1) := by
  obtain ⟨xs, nf, _, hx, hl, hlen, hf⟩ := DataW.trod_struct Tryz.underlying33 h
  obtain ⟨c0, c1, rfl⟩ := ll2 (hl.trans cellsC)
  obtain ⟨y0, y1, rfl⟩ := ll2 (show xs.length = 2 by simpa using hlen)
  have g0 : DataW.trod enc Tryz.prog w base spare held nf 3 [c0] = some y0 := by
    have q := hf 0 _ rfl
    simpa [cellsI] using q
  have g1 : DataW.trod enc Tryz.prog w base spare held nf 3 [c1] = some y1 := by
    have q := hf 1 _ rfl
    simpa [cellsI] using q
  obtain ⟨a0, e0, _, w0⟩ := DataW.trod_int Tryz.underlying3 g0
  obtain ⟨a1, e1, _, w1⟩ := DataW.trod_int Tryz.underlying3 g1
  simp only [List.cons.injEq, and_true] at e0 e1
  subst e0 e1
  exact ⟨⟨a0, a1⟩, rfl, ⟨i64_of w0, i64_of w1⟩, by rw [hx]; simp only [Rows.uptoBulk]; omega⟩
set_option maxRecDepth 100000 in
theorem trodRc {n : Nat} {c0 c1 c2 c3 : Value} {y : DataW H × List MemPlace} (h : DataW.trod enc Tryz.prog w base spare held n 48 [c0, c1, c2, c3] = some y) : ∃ r0 r1 r2 r3 : Int, c0 = .int .i64 r0 ∧ c1 = .int .i64 r1 ∧ c2 = .int .i64 r2 ∧ c3 = .int .i64 r3 := by
  obtain ⟨xs, nf, _, hx, hl, hlen, hf⟩ := DataW.trod_struct Tryz.underlying48 h
  obtain ⟨y0, y1, y2, y3, rfl⟩ := ll4 (show xs.length = 4 by simpa using hlen)
  have g0 : DataW.trod enc Tryz.prog w base spare held nf 3 [c0] = some y0 := by
    have q := hf 0 _ rfl
    simpa [cellsI] using q
  have g1 : DataW.trod enc Tryz.prog w base spare held nf 3 [c1] = some y1 := by
    have q := hf 1 _ rfl
    simpa [cellsI] using q
  have g2 : DataW.trod enc Tryz.prog w base spare held nf 3 [c2] = some y2 := by
    have q := hf 2 _ rfl
    simpa [cellsI] using q
  have g3 : DataW.trod enc Tryz.prog w base spare held nf 3 [c3] = some y3 := by
    have q := hf 3 _ rfl
    simpa [cellsI] using q
  obtain ⟨a0, e0, _, w0⟩ := DataW.trod_int Tryz.underlying3 g0
  obtain ⟨a1, e1, _, w1⟩ := DataW.trod_int Tryz.underlying3 g1
  obtain ⟨a2, e2, _, w2⟩ := DataW.trod_int Tryz.underlying3 g2
  obtain ⟨a3, e3, _, w3⟩ := DataW.trod_int Tryz.underlying3 g3
  simp only [List.cons.injEq, and_true] at e0 e1 e2 e3
  exact ⟨a0, a1, a2, a3, e0, e1, e2, e3⟩
set_option maxRecDepth 100000 in
theorem trodF {n : Nat} {c : List Value} {y : DataW H × List MemPlace} (h : DataW.trod enc Tryz.prog w base spare held n 50 c = some y) : ∃ x : Rf, c = Rf.cs x ∧ 1 ≤ Rows.uptoBulk y.1 := by
  obtain ⟨xs, nf, _, hx, hl, hlen, hf⟩ := DataW.trod_struct Tryz.underlying50 h
  obtain ⟨c0, c1, c2, c3, c4, rfl⟩ := ll5 (hl.trans cellsFr)
  obtain ⟨y0, y1, rfl⟩ := ll2 (show xs.length = 2 by simpa using hlen)
  have g0 : DataW.trod enc Tryz.prog w base spare held nf 4 [c0] = some y0 := by
    have q := hf 0 _ rfl
    simpa [cellsBo] using q
  have g1 : DataW.trod enc Tryz.prog w base spare held nf 48 [c1, c2, c3, c4] = some y1 := by
    have q := hf 1 _ rfl
    simpa [cellsBo, cellsR] using q
  obtain ⟨m, e0, _⟩ := DataW.trod_bool Tryz.underlying4 g0
  obtain ⟨a0, a1, a2, a3, rfl, rfl, rfl, rfl⟩ := trodRc g1
  simp only [List.cons.injEq, and_true] at e0
  subst e0
  exact ⟨⟨m, a0, a1, a2, a3⟩, rfl, by rw [hx]; simp only [Rows.uptoBulk]; omega⟩
set_option maxRecDepth 100000 in
theorem trodD {n : Nat} {c : List Value} {y : DataW H × List MemPlace} (h : DataW.trod enc Tryz.prog w base spare held n 35 c = some y) : ∃ x : Dv, c = Dv.cs x ∧ (DvW w x ∧ x.l.length + 1 ≤ Rows.uptoBulk y.1) := by
  obtain ⟨xs, nf, _, hx, hl, hlen, hf⟩ := DataW.trod_struct Tryz.underlying35 h
  obtain ⟨c0, c1, c2, rfl⟩ := ll3 (hl.trans cellsDd)
  obtain ⟨y0, y1, rfl⟩ := ll2 (show xs.length = 2 by simpa using hlen)
  have g0 : DataW.trod enc Tryz.prog w base spare held nf 33 [c0, c1] = some y0 := by
    have q := hf 0 _ rfl
    simpa [cellsC] using q
  have g1 : DataW.trod enc Tryz.prog w base spare held nf 30 [c2] = some y1 := by
    have q := hf 1 _ rfl
    simpa [cellsC, cellsFs] using q
  obtain ⟨⟨z0, z1⟩, ez, ⟨w0, w1⟩, _⟩ := trodC g0
  simp only [Cl.cs, List.cons.injEq, and_true] at ez
  obtain ⟨rfl, rfl⟩ := ez
  have hsl : ∃ fp fn fc, c2 = .slice fp fn fc := by
    rcases Go.Deep.open_slice Tryz.underlying30 g1 with ⟨h1, _⟩ | ⟨a, len, cap, _, _, _, _, h1, _⟩
    · simp only [List.cons.injEq, and_true] at h1; exact ⟨_, _, _, h1⟩
    · simp only [List.cons.injEq, and_true] at h1; exact ⟨_, _, _, h1⟩
  obtain ⟨fp, fn, fc, rfl⟩ := hsl
  obtain ⟨l, hv, hln, hd⟩ := open_lst (cs := Rf.cs) (k := 5) (by decide) (fun _ => rfl) ⟨false, 0, 0, 0, 0⟩ Tryz.underlying30 cellsFr (Q := fun x d => 1 ≤ Rows.uptoBulk d) (fun ht => trodF ht) (show DataW.trod enc Tryz.prog w base spare held nf 30 [.slice fp fn fc] = some (y1.1, y1.2) from g1)
  refine ⟨⟨z0, z1, fp, fn, fc, l⟩, rfl, ⟨w0, w1, ?_⟩, ?_⟩
  · obtain ⟨p, cap, e, k1, k2, k3⟩ := hv
    injection e with e1 e2 e3
    subst e1 e2 e3
    exact ⟨fp, _, fc, rfl, rfl, k1, k2, k3⟩
  · have hb := list_bulk hd (fun _ _ q => q)
    rw [hx]
    simp only [List.map_cons, List.map_nil, Rows.uptoBulk, Rows.uptoBulkAll]
    show l.length + 1 ≤ _
    omega
theorem cst_bulk : ∀ (l : List Dv) (es : List (DataW H)), es.length = l.length → (∀ (i : Nat) (x : Dv) (e : DataW H), l[i]? = some x → es[i]? = some e → x.l.length + 1 ≤ Rows.uptoBulk e) → cst l ≤ Rows.uptoBulkAll es
  | [], es, h, _ => Nat.zero_le _
  | p :: l, [], h, _ => by cases h
  | p :: l, e :: es, h, hq => by
    have h1 := cst_bulk l es (by simpa using h) (fun i x e' hi he => hq (i + 1) x e' (by simpa using hi) (by simpa using he))
    have h2 := hq 0 p e rfl rfl
    simp only [cst, List.map_cons, List.sum_cons, Rows.uptoBulkAll] at h1 ⊢
    omega
theorem lst_all {α : Type} {l : List α} {d : DataW H} {Q : α → DataW H → Prop} (h : (l = [] ∧ d = .nil) ∨ ∃ elems sp, elems.length = l.length ∧ (∀ (i : Nat) (x : α) (e : DataW H), l[i]? = some x → elems[i]? = some e → Q x e) ∧ d = .slice elems sp) : ∀ x ∈ l, ∃ e, Q x e := fun x hx => by
  rcases h with ⟨rfl, _⟩ | ⟨elems, sp, hle, hq, _⟩
  · cases hx
  · obtain ⟨i, hi, rfl⟩ := List.getElem_of_mem hx
    exact ⟨_, hq i _ _ (List.getElem?_eq_getElem hi) (List.getElem?_eq_getElem (by omega))⟩
set_option maxRecDepth 100000 in
theorem open_deeds {v : Value} {d : DataW H} {p : List MemPlace} (hv : Value.okWide Tryz.prog w r b0 22 v) (h : DataW.Trod enc Tryz.prog w base spare held 22 v d p) : ∃ l : List Dv, DVw w v l ∧ cst l ≤ Rows.uptoBulk d := by
  obtain ⟨fp, fn, fc, rfl⟩ := okWide_slice Tryz.underlying22 hv
  obtain ⟨fuel, hf⟩ := h
  obtain ⟨l, hv, hln, hd⟩ := open_lst (cs := Dv.cs) (k := 3) (by decide) Dv.len ⟨0, 0, none, 0, 0, []⟩ Tryz.underlying22 cellsDd (Q := fun x d => DvW w x ∧ x.l.length + 1 ≤ Rows.uptoBulk d) (fun ht => trodD ht) (show DataW.trod enc Tryz.prog w base spare held fuel 22 [.slice fp fn fc] = some (d, p) from hf)
  obtain ⟨q, cap, e, k1, k2, k3⟩ := hv
  refine ⟨l, ⟨q, cap, e, k1, k2, k3, fun x hx => (lst_all hd x hx).elim (fun e q => q.1)⟩, ?_⟩
  rcases hd with ⟨rfl, _⟩ | ⟨elems, sp, hle, hq, rfl⟩
  · exact Nat.zero_le _
  · have := cst_bulk l elems hle (fun i x e hi he => (hq i x e hi he).2)
    simp only [Rows.uptoBulk]
    omega
set_option maxRecDepth 100000 in
theorem open_cls {v : Value} {d : DataW H} {p : List MemPlace} (hv : Value.okWide Tryz.prog w r b0 23 v) (h : DataW.Trod enc Tryz.prog w base spare held 23 v d p) : ∃ l : List Cl, LV Cl.cs 2 w v l ∧ (∀ x ∈ l, I64 x.r ∧ I64 x.c) ∧ l.length ≤ Rows.uptoBulk d := by
  obtain ⟨fp, fn, fc, rfl⟩ := okWide_slice Tryz.underlying23 hv
  obtain ⟨fuel, hf⟩ := h
  obtain ⟨l, hv, hln, hd⟩ := open_lst (cs := Cl.cs) (k := 2) (by decide) Cl.len ⟨0, 0⟩ Tryz.underlying23 cellsC (Q := fun x d => (I64 x.r ∧ I64 x.c) ∧ 1 ≤ Rows.uptoBulk d) (fun ht => trodC ht) (show DataW.trod enc Tryz.prog w base spare held fuel 23 [.slice fp fn fc] = some (d, p) from hf)
  exact ⟨l, hv, fun x hx => (lst_all hd x hx).elim (fun e q => q.1), by have := list_bulk hd (fun _ _ q => q.2); omega⟩
end
theorem bulk_at0 {H : Type} {d : DataW H} {ds : List (DataW H)} (h : Rows.uptoSmall H (d :: ds) = true) : Rows.uptoBulk d ≤ 1048576 := by
  have := of_decide_eq_true h
  simp only [Rows.uptoBulkAll] at this
  omega
end Go.Proofs.YtgojnijpjfdocaaGreat
