/- Ranging over a map by cells, at the operations of a walk. · A Deps behind some deeds, in the form that a law's walk uses: which blocks are none of its own. No function's text is walked here. · Marks: the map of states (what each cell has, if any); looked up both ways; put; taken out; how many cells are clean. No function's text is walked here. -/
import Derived.Test.YtcjanaldjokllaaGreatQFPFQFW
namespace Go.Proofs.YtcjanaldjokllaaGreat
open Go.RowKit Go.Shelf
set_option linter.all false
theorem RangeF.left_eq {w : World} {b r n : Nat} {f : Int → Int → Value} {K : List Cl} {cnt : Nat} (h : RangeF w b r n f K cnt) : w.rangeLeft b r = cnt := by
  obtain ⟨D, left, h1, _⟩ := h
  exact h1.left_eq
section
variable {w : World} {ops : Array Oper} {rest : List Oper} {o : Oper} {a : Act} {Q : Exit → Act → World → Prop}
theorem wpList_rangeF (hg : o.guard = none) (m : Operand) (t e : TypeId) (hop : o.op = Op.range t m) {b n : Nat} {f : Int → Int → Value} (hm : a.eval m = .map (some b)) (h : MapF w b n f) (ht : Tryz.prog.underlying t = some (.map 32 e))
    (hK : ∀ w' cnt, RangeF w' b w.heap.size n f [] cnt → Below w.heap.size w w' → w'.heap.size = w.heap.size + 1 → wpList Tryz.prog ops Q rest (a.put o.dst (.pointer (some ⟨w.heap.size, 0, none⟩))) w') : wpList Tryz.prog ops Q (o :: rest) a w := by
  refine wpList_plain hg fun K' hK' => ?_
  obtain ⟨w', cnt, hrun, r1, r2, r3⟩ := h.range ht
  unfold Oper.wp
  simp [execOp, hop, hm, hrun, Result.andThen]
  exact hK' _ _ (hK w' cnt r1 r2 r3)
theorem wpList_nextF (hg : o.guard = none) (it : Operand) (hop : o.op = Op.next it false) {b r n : Nat} {f : Int → Int → Value} {K : List Cl} {cnt : Nat} (hit : a.eval it = .pointer (some ⟨r, 0, none⟩)) (h : RangeF w b r n f K cnt)
    (hDone : (∀ x y, I64 x → I64 y → f x y ≠ nilS → (⟨x, y⟩ : Cl) ∈ K) → wpList Tryz.prog ops Q rest (a.put o.dst (.tuple #[.bool false])) w)
    (hMore : ∀ x y w' cnt', I64 x → I64 y → (⟨x, y⟩ : Cl) ∉ K → f x y ≠ nilS → RangeF w' b r n f (K ++ [⟨x, y⟩]) cnt' → cnt' < cnt → Mut (fun k => k = r) w w' → w'.heap.size = w.heap.size → (Instr.entry (.pointer (some ⟨r, 0, none⟩))).run Tryz.prog w' = .ok (.tuple #[.agg #[.int .i64 x, .int .i64 y], f x y]) w' → wpList Tryz.prog ops Q rest (a.put o.dst (.tuple #[.bool true, .agg #[.int .i64 x, .int .i64 y], f x y])) w') : wpList Tryz.prog ops Q (o :: rest) a w := by
  refine wpList_plain hg fun K' hK' => ?_
  unfold Oper.wp
  rcases h.next o.type with ⟨h0, hrun⟩ | ⟨x, y, w', cnt', hx, hy, hn, hf, hrun, hrg, hlt, hm, hsz, hen⟩
  · simp [execOp, hop, hit, hrun, Result.andThen]
    exact hK' _ _ (hDone h0)
  · simp [execOp, hop, hit, hrun, Result.andThen]
    exact hK' _ _ (hMore x y w' cnt' hx hy hn hf hrg hlt hm hsz hen)
end
end Go.Proofs.YtcjanaldjokllaaGreat
namespace Go.Proofs.YtcjanaldjokllaaGreat
open Go.RowKit Go.Shelf
set_option linter.all false
theorem Fm.aside {S : Nat → Prop} {w w' : World} {bf : Nat} {B : Nat → Option TagD} {E : Int → Int → List Rf} {n : Nat} (h : Fm w bf B E n) (hm : Mut S w w') (hs : ∀ b, S b → B b = none) : Fm w' bf B E n := by
  obtain ⟨⟨ff, h1, h2⟩, h3⟩ := h
  refine ⟨⟨ff, h1.mut hm (fun q => by rw [hs bf q] at h3; cases h3), fun r c hr hc => ?_⟩, h3⟩
  obtain ⟨k1, k2, k3⟩ := h2 r c hr hc
  exact ⟨RowG.mut k1 hm (fun g q s => by have := k3 g q; rw [hs g s] at this; cases this), k2, k3⟩
/-- Blocks that are none of a Deps are turned. -/
theorem Dn.mut {S : Nat → Prop} {w w' : World} {N : Nat} {B : Nat → Option TagD} {D : List Dv} (h : Dn w N B D) (hm : Mut S w w') (hs : ∀ b, S b → B b = none) : Dn w' N B D := by
  obtain ⟨⟨h1, h2, h0, bf, bc, NB, h3, h4, h5⟩, hf⟩ := h
  refine ⟨⟨h1, h2, fun b q => h0 b (Nat.le_trans hm.size q), bf, bc, NB, h3.mut hm (fun q => by rw [hs N q] at h2; cases h2), h4.aside hm hs, h5.mut hm (fun b q s => by have := isTo_some q; rw [hs b s] at this; cases this)⟩, hf⟩
/-- A Deps behind some deeds; the blocks of F are none of its own. -/
def Dw (F : Nat → Prop) (w : World) (N : Nat) (D : List Dv) : Prop := ∃ B, Dn w N B D ∧ ∀ b, F b → B b = none
theorem Dw.keep {F : Nat → Prop} {w w' : World} {N : Nat} {D : List Dv} (h : Dw F w N D) (hb : Below w.heap.size w w') : Dw F w' N D := by
  obtain ⟨B, h1, h2⟩ := h
  exact ⟨B, h1.keep hb, h2⟩
theorem Dw.turn {F S : Nat → Prop} {w w' : World} {N : Nat} {D : List Dv} (h : Dw F w N D) (hm : Mut S w w') (hs : ∀ b, S b → F b) : Dw F w' N D := by
  obtain ⟨B, h1, h2⟩ := h
  exact ⟨B, h1.mut hm (fun b q => h2 b (hs b q)), h2⟩
theorem Dw.fresh {F G : Nat → Prop} {w : World} {N : Nat} {D : List Dv} (h : Dw F w N D) (hS : ∀ b, G b → F b ∨ w.heap.size ≤ b) : Dw G w N D := by
  obtain ⟨B, h1, h2⟩ := h
  exact ⟨B, h1, fun b q => (hS b q).elim (h2 b) (h1.dp.dom b)⟩
theorem Dw.lt {F : Nat → Prop} {w : World} {N : Nat} {D : List Dv} (h : Dw F w N D) : N < w.heap.size := by
  obtain ⟨B, h1, _⟩ := h
  obtain ⟨bf, bc, NB, h3, _⟩ := h1.dp.cells
  exact h3.lt
theorem dset_dw (w : World) (N : Nat) (F : Nat → Prop) (D : List Dv) (d : Dv) (h : Dw F w N D) (hF : ∀ b, F b → b < w.heap.size) (hv : VF w d.v d.l) (hvb : ∀ p n c, d.v = .slice (some p) n c → 0 < n → F p.block) (hs : cst (D ++ [d]) ≤ 1048576) : Calls Tryz.prog 10 #[.pointer (some ⟨N, 0, none⟩), .agg #[.int .i64 d.r, .int .i64 d.c], d.v] w fun e w' => e = .returned (.int .i64 d.err) ∧ Dw F w' N (D ++ [d]) ∧ Mut (fun b => ¬ F b) w w' := by
  obtain ⟨B, h1, h2⟩ := h
  refine (dset_dn w N B D d h1 hv (fun p n c e q => h2 _ (hvb p n c e q)) hs).mono ?_
  rintro e w' ⟨rfl, B', k1, k2, k3⟩
  exact ⟨rfl, ⟨B', k1, fun b q => by rw [k3 b (hF b q)]; exact h2 b q⟩, k2.os, k2.tape, k2.output, k2.size, fun b hb hn => k2.block b hb (fun q => hn (fun q2 => by rw [h2 b q2] at q; cases q))⟩
theorem dnew_dw (w : World) : Calls Tryz.prog 19 #[] w fun e w' => ∃ N, e = .returned (.pointer (some ⟨N, 0, none⟩)) ∧ w.heap.size ≤ N ∧ Dw (fun b => b < w.heap.size) w' N [] ∧ Below w.heap.size w w' := by
  refine (dnew_any w).mono ?_
  rintro e w' ⟨N, B, rfl, k1, k2, k3, k4⟩
  exact ⟨N, rfl, k1, ⟨B, ⟨k2, Few.none⟩, k3⟩, k4⟩
theorem ddir_dw (w : World) (N : Nat) (F : Nat → Prop) (D : List Dv) (x y : Int) (h : Dw F w N D) (hx : I64 x) (hy : I64 y) : Calls Tryz.prog 54 #[.pointer (some ⟨N, 0, none⟩), .agg #[.int .i64 x, .int .i64 y]] w fun e w' => ∃ v, e = .returned v ∧ ∃ l, RowG 32 2 Cl.cs w' w.heap.size v l ∧ IsWho (runE D) x y l ∧ Below w.heap.size w w' := by
  obtain ⟨B, h1, h2⟩ := h
  exact ddir_any w N B _ _ _ x y h1.dp hx hy
end Go.Proofs.YtcjanaldjokllaaGreat
namespace Go.Proofs.YtcjanaldjokllaaGreat
open Go.RowKit Go.Shelf
set_option linter.all false
/-- The states. -/
abbrev Ms := Int → Int → Option Int
def stM (M : Ms) (x y : Int) : Int := (M x y).getD 0
def upM (M : Ms) (x y : Int) (o : Option Int) : Ms := fun a b => if a = x ∧ b = y then o else M a b
theorem upM_same (M : Ms) (x y : Int) (o : Option Int) : upM M x y o x y = o := if_pos ⟨rfl, rfl⟩
theorem upM_other {M : Ms} {x y a b : Int} {o : Option Int} (h : ¬ (a = x ∧ b = y)) : upM M x y o a b = M a b := if_neg h
theorem stM_same (M : Ms) (x y s : Int) : stM (upM M x y (some s)) x y = s := by unfold stM; rw [upM_same]; rfl
theorem stM_other {M : Ms} {x y a b : Int} {o : Option Int} (h : ¬ (a = x ∧ b = y)) : stM (upM M x y o) a b = stM M a b := by unfold stM; rw [upM_other h]
def oI (o : Option Int) : Value := match o with | none => nilS | some s => .int .i64 s
def vI (M : Ms) : Int → Int → Value := fun x y => oI (M x y)
theorem vI_up (M : Ms) (x y : Int) (o : Option Int) : updV (vI M) x y (oI o) = vI (upM M x y o) := by
  funext a b
  unfold updV vI upM
  split <;> rfl
theorem vI_none {M : Ms} {x y : Int} : vI M x y = nilS ↔ M x y = none := by
  unfold vI oI
  constructor
  · intro h
    cases hm : M x y with
    | none => rfl
    | some s => rw [hm] at h; cases h
  · intro h; rw [h]
/-- The map of states in memory: block b, at most n cells. -/
abbrev MapI (w : World) (b n : Nat) (M : Ms) : Prop := MapF w b n (vI M)
theorem at_int {D : DataW Value} {M : Ms} {x y : Int} (h2 : D.atKey (keyC x y) (.held nilS) = .held (vI M x y)) (h3 : Maps.has D (keyC x y) = true → vI M x y ≠ nilS) : D.atKey (keyC x y) (.held (.int .i64 0)) = .held (.int .i64 (stM M x y)) ∧ Maps.has D (keyC x y) = (M x y).isSome := by
  unfold stM
  cases hm : M x y with
  | none =>
    have hv : vI M x y = nilS := vI_none.2 hm
    have hh : Maps.has D (keyC x y) = false := by
      cases q : Maps.has D (keyC x y) with
      | false => rfl
      | true => exact absurd hv (h3 q)
    exact ⟨Maps.atKey_of_not_has hh _, hh⟩
  | some s =>
    have hv : vI M x y = .int .i64 s := by unfold vI oI; rw [hm]
    rw [hv] at h2
    have hh : Maps.has D (keyC x y) = true := by
      cases q : Maps.has D (keyC x y) with
      | true => rfl
      | false =>
        rw [Maps.atKey_of_not_has q] at h2
        cases h2
    refine ⟨?_, hh⟩
    cases D <;> try (cases hh; done)
    rename_i es
    obtain ⟨p, hp, hpk⟩ := List.any_eq_true.1 hh
    have hs : (es.find? (fun p => p.1.sameKey (keyC x y))).isSome = true := List.find?_isSome.2 ⟨p, hp, hpk⟩
    obtain ⟨z, hz⟩ := Option.isSome_iff_exists.1 hs
    have e1 : z.2 = .held (.int .i64 s) := by simpa [DataW.atKey, hz] using h2
    simp [DataW.atKey, hz, e1]
theorem MapF.lookI {w : World} {b n : Nat} {M : Ms} (h : MapI w b n M) {t e : TypeId} (ht : Tryz.prog.underlying t = some (.map 32 e)) (hz : (zeroValue e).run Tryz.prog w = .ok (.int .i64 0) w) (x y : Int) (hx : I64 x) (hy : I64 y) : (Instr.lookup t (.map (some b)) (.agg #[.int .i64 x, .int .i64 y]) false).run Tryz.prog w = .ok (.int .i64 (stM M x y)) w := by
  obtain ⟨D, h1, h2, h3⟩ := h
  obtain ⟨v, ps, r1, r2⟩ := h1.lookup lawCell ht hz (zd := .held (.int .i64 0)) (zp := []) rfl (key_ofC x y hx hy)
  rw [(at_int (h2 x y hx hy) (h3 x y hx hy)).1] at r2
  simp only [heldR, Option.some.injEq, Prod.mk.injEq, DataW.held.injEq] at r2
  rw [r1, r2.1]
theorem MapF.lookOkI {w : World} {b n : Nat} {M : Ms} (h : MapI w b n M) {t e : TypeId} (ht : Tryz.prog.underlying t = some (.map 32 e)) (hz : (zeroValue e).run Tryz.prog w = .ok (.int .i64 0) w) (x y : Int) (hx : I64 x) (hy : I64 y) : (Instr.lookup t (.map (some b)) (.agg #[.int .i64 x, .int .i64 y]) true).run Tryz.prog w = .ok (.tuple #[.int .i64 (stM M x y), .bool (M x y).isSome]) w := by
  obtain ⟨D, h1, h2, h3⟩ := h
  obtain ⟨v, ps, r1, r2⟩ := h1.look_ok lawCell ht hz (zd := .held (.int .i64 0)) (zp := []) rfl (key_ofC x y hx hy)
  have k := at_int (h2 x y hx hy) (h3 x y hx hy)
  rw [k.1] at r2
  simp only [heldR, Option.some.injEq, Prod.mk.injEq, DataW.held.injEq] at r2
  rw [r1, r2.1, k.2]
theorem MapF.putI {w : World} {b n : Nat} {M : Ms} (h : MapI w b n M) {t e : TypeId} (ht : Tryz.prog.underlying t = some (.map 32 e)) (hn : n < maxLen) (x y : Int) (hx : I64 x) (hy : I64 y) (s : Int) : ∃ w', (Instr.mapUpdate t (.map (some b)) (.agg #[.int .i64 x, .int .i64 y]) (.int .i64 s)).run Tryz.prog w = .ok () w' ∧ MapI w' b (n + 1) (upM M x y (some s)) ∧ Mut (fun k => k = b) w w' := by
  have k := h.put ht hn x y hx hy (.int .i64 s) (fun q => by cases q)
  rw [show (Value.int .i64 s) = oI (some s) from rfl, vI_up] at k
  exact k
theorem MapF.delI {w : World} {b n : Nat} {M : Ms} (h : MapI w b n M) {t e : TypeId} (ht : Tryz.prog.underlying t = some (.map 32 e)) (x y : Int) (hx : I64 x) (hy : I64 y) (ty : TypeId) : ∃ w', (Builtin.delete_ #[t, 32] ty #[.map (some b), .agg #[.int .i64 x, .int .i64 y]]).run Tryz.prog w = .ok undef w' ∧ MapI w' b n (upM M x y none) ∧ Mut (fun k => k = b) w w' := by
  have k := h.del ht x y hx hy ty
  rw [show nilS = oI none from rfl, vI_up] at k
  exact k
theorem MapF.madeI (w : World) : MapI (w.alloc (.map #[] 0)) w.heap.size 0 (fun _ _ => none) := by
  have k := MapF.made w
  exact k
/-- All cells that may be. -/
def allC : List Cl := (List.range 4096).flatMap fun (r : Nat) => (List.range 256).map fun (c : Nat) => ⟨(r : Int) + 1, (c : Int) + 1⟩
theorem allC_mem {x y : Int} : (⟨x, y⟩ : Cl) ∈ allC ↔ mayC x y = true := by
  unfold allC
  rw [List.mem_flatMap]
  constructor
  · rintro ⟨r, hr, h⟩
    obtain ⟨c, hc, e⟩ := List.mem_map.1 h
    rw [List.mem_range] at hr hc
    injection e with e1 e2
    exact mayC_t (by omega)
  · intro h
    have := mayC_is h
    refine ⟨(x - 1).toNat, List.mem_range.2 (by omega), List.mem_map.2 ⟨(y - 1).toNat, List.mem_range.2 (by omega), ?_⟩⟩
    congr 1 <;> omega
theorem sum_same {α : Type} (k : Nat) : ∀ l : List α, (l.map fun _ => k).sum = l.length * k
  | [] => by simp
  | a :: l => by rw [List.map_cons, List.sum_cons, sum_same k l, List.length_cons, Nat.add_mul]; omega
theorem allC_len : allC.length = 1048576 := by
  unfold allC
  rw [List.length_flatMap]
  simp only [List.length_map, List.length_range]
  rw [sum_same, List.length_range]
/-- How many cells that may be are clean, or have no state. -/
def cln (M : Ms) : Nat := allC.countP fun k => decide (stM M k.r k.c = 0)
theorem cln_le (M : Ms) : cln M ≤ 1048576 := by
  have := List.countP_le_length (p := fun k : Cl => decide (stM M k.r k.c = 0)) (l := allC)
  rw [allC_len] at this
  exact this
theorem cln_mono {M M' : Ms} (h : ∀ x y, mayC x y = true → stM M' x y = 0 → stM M x y = 0) : cln M' ≤ cln M := by
  refine List.countP_mono_left (fun k hk q => ?_)
  rw [decide_eq_true_eq] at q ⊢
  exact h _ _ (allC_mem.1 hk) q
theorem countP_lt {α : Type} {p q : α → Bool} : ∀ {l : List α} {a : α}, a ∈ l → (∀ x ∈ l, p x = true → q x = true) → p a = false → q a = true → l.countP p < l.countP q
  | b :: l, a, h, hm, h1, h2 => by
    rw [List.countP_cons, List.countP_cons]
    have hle : l.countP p ≤ l.countP q := List.countP_mono_left (fun x hx => hm x (List.mem_cons_of_mem _ hx))
    rcases List.mem_cons.1 h with e | h
    · subst e
      rw [h1, h2]
      simp
      omega
    · have := countP_lt h (fun x hx => hm x (List.mem_cons_of_mem _ hx)) h1 h2
      have hb := hm b List.mem_cons_self
      cases hp : p b
      · simp
        split <;> omega
      · rw [hb hp]
        simp
        omega
/-- A clean one that is marked: one fewer. -/
theorem cln_lt {M : Ms} {x y s : Int} (hm : mayC x y = true) (h0 : stM M x y = 0) (hs : s ≠ 0) : cln (upM M x y (some s)) < cln M := by
  refine countP_lt (a := ⟨x, y⟩) (allC_mem.2 hm) (fun k hk q => ?_) ?_ ?_
  · rw [decide_eq_true_eq] at q ⊢
    by_cases t : k.r = x ∧ k.c = y
    · rw [t.1, t.2, stM_same] at q
      exact absurd q hs
    · rw [stM_other t] at q
      exact q
  · show decide (stM (upM M x y (some s)) x y = 0) = false
    rw [stM_same]
    exact decide_eq_false hs
  · show decide (stM M x y = 0) = true
    exact decide_eq_true h0
theorem cln_up {M : Ms} {x y s : Int} (hs : s ≠ 0) : cln (upM M x y (some s)) ≤ cln M := cln_mono (fun a b _ q => by
  by_cases t : a = x ∧ b = y
  · rw [t.1, t.2, stM_same] at q
    exact absurd q hs
  · rw [stM_other t] at q
    exact q)
/-- One cell of those that refer to one: marked, and put on the stack if it was clean; how often a state was put. -/
def sprS (tx ty st : Int) (p : Ms × List Cl × Nat) (k : Cl) : Ms × List Cl × Nat :=
  if (k.r = tx ∧ k.c = ty) ∨ st ≤ stM p.1 k.r k.c then p
  else (upM p.1 k.r k.c (some st), (if stM p.1 k.r k.c = 0 then p.2.1 ++ [k] else p.2.1), p.2.2 + 1)
def sprL (tx ty st : Int) (ks : List Cl) (p : Ms × List Cl × Nat) : Ms × List Cl × Nat := ks.foldl (sprS tx ty st) p
theorem sprL_next {tx ty st : Int} {ks : List Cl} {i : Nat} {k : Cl} (p : Ms × List Cl × Nat) (h : ks[i]? = some k) : sprL tx ty st (ks.take (i + 1)) p = sprS tx ty st (sprL tx ty st (ks.take i) p) k := by
  unfold sprL
  rw [List.take_succ, h, List.foldl_append]
  rfl
/-- What a map of states may be. -/
def OkM (M : Ms) : Prop := ∀ x y s, M x y = some s → 0 ≤ s ∧ s ≤ 2 ∧ mayC x y = true
theorem OkM.st {M : Ms} (h : OkM M) (x y : Int) : 0 ≤ stM M x y ∧ stM M x y ≤ 2 := by
  unfold stM
  cases hm : M x y with
  | none => exact ⟨Int.le_refl _, by decide⟩
  | some s => exact ⟨(h x y s hm).1, (h x y s hm).2.1⟩
theorem OkM.up {M : Ms} (h : OkM M) {x y s : Int} (h0 : 0 ≤ s) (h1 : s ≤ 2) (hm : mayC x y = true) : OkM (upM M x y (some s)) := by
  intro a b t e
  by_cases q : a = x ∧ b = y
  · rw [q.1, q.2, upM_same] at e
    cases e
    exact ⟨h0, h1, by rw [q.1, q.2]; exact hm⟩
  · rw [upM_other q] at e
    exact h a b t e
theorem OkM.del {M : Ms} (h : OkM M) (x y : Int) : OkM (upM M x y none) := by
  intro a b t e
  by_cases q : a = x ∧ b = y
  · rw [q.1, q.2, upM_same] at e
    cases e
  · rw [upM_other q] at e
    exact h a b t e
theorem sprS_no {tx ty st : Int} {p : Ms × List Cl × Nat} {k : Cl} (h : (k.r = tx ∧ k.c = ty) ∨ st ≤ stM p.1 k.r k.c) : sprS tx ty st p k = p := if_pos h
theorem sprS_yes {tx ty st : Int} {p : Ms × List Cl × Nat} {k : Cl} (h : ¬ ((k.r = tx ∧ k.c = ty) ∨ st ≤ stM p.1 k.r k.c)) : sprS tx ty st p k = (upM p.1 k.r k.c (some st), (if stM p.1 k.r k.c = 0 then p.2.1 ++ [k] else p.2.1), p.2.2 + 1) := if_neg h
/-- The stack and the clean ones together never grow; so many states are put. -/
theorem sprS_room {tx ty st : Int} (hs : 0 < st) (p : Ms × List Cl × Nat) (k : Cl) (hm : mayC k.r k.c = true) (hp : OkM p.1) :
    (sprS tx ty st p k).2.1.length + cln (sprS tx ty st p k).1 ≤ p.2.1.length + cln p.1 ∧ (sprS tx ty st p k).2.1.length + 2 * cln (sprS tx ty st p k).1 ≤ p.2.1.length + 2 * cln p.1 ∧ (sprS tx ty st p k).2.2 ≤ p.2.2 + 1 ∧ (st = 1 → (sprS tx ty st p k).2.2 + cln (sprS tx ty st p k).1 ≤ p.2.2 + cln p.1) := by
  by_cases h : (k.r = tx ∧ k.c = ty) ∨ st ≤ stM p.1 k.r k.c
  · rw [sprS_no h]
    exact ⟨Nat.le_refl _, Nat.le_refl _, Nat.le_succ _, fun _ => Nat.le_refl _⟩
  · rw [sprS_yes h]
    have h0 := (hp.st k.r k.c).1
    have hn : ¬ st ≤ stM p.1 k.r k.c := fun q => h (.inr q)
    have hu := cln_up (M := p.1) (x := k.r) (y := k.c) (s := st) (by omega)
    simp only
    by_cases q : stM p.1 k.r k.c = 0
    · have := cln_lt hm q (s := st) (by omega)
      rw [if_pos q, List.length_append, List.length_singleton]
      exact ⟨by omega, by omega, by omega, fun _ => by omega⟩
    · rw [if_neg q]
      exact ⟨by omega, by omega, by omega, fun e => by omega⟩
theorem sprS_ok {tx ty st : Int} (h0 : 0 ≤ st) (h1 : st ≤ 2) (p : Ms × List Cl × Nat) (k : Cl) (hm : mayC k.r k.c = true) (hp : OkM p.1) : OkM (sprS tx ty st p k).1 := by
  unfold sprS
  split
  · exact hp
  · exact hp.up h0 h1 hm
theorem sprL_cons (tx ty st : Int) (k : Cl) (ks : List Cl) (p : Ms × List Cl × Nat) : sprL tx ty st (k :: ks) p = sprL tx ty st ks (sprS tx ty st p k) := rfl
theorem sprL_ok {tx ty st : Int} (h0 : 0 ≤ st) (h1 : st ≤ 2) : ∀ (ks : List Cl) (p : Ms × List Cl × Nat), (∀ k ∈ ks, mayC k.r k.c = true) → OkM p.1 → OkM (sprL tx ty st ks p).1
  | [], p, _, hp => hp
  | k :: ks, p, h, hp => by
    rw [sprL_cons]
    exact sprL_ok h0 h1 ks _ (fun q hq => h q (List.mem_cons_of_mem _ hq)) (sprS_ok h0 h1 p k (h k List.mem_cons_self) hp)
theorem sprL_room {tx ty st : Int} (hs : 0 < st) (h2 : st ≤ 2) : ∀ (ks : List Cl) (p : Ms × List Cl × Nat), (∀ k ∈ ks, mayC k.r k.c = true) → OkM p.1 →
    (sprL tx ty st ks p).2.1.length + cln (sprL tx ty st ks p).1 ≤ p.2.1.length + cln p.1 ∧ (sprL tx ty st ks p).2.1.length + 2 * cln (sprL tx ty st ks p).1 ≤ p.2.1.length + 2 * cln p.1 ∧ (sprL tx ty st ks p).2.2 ≤ p.2.2 + ks.length ∧ (st = 1 → (sprL tx ty st ks p).2.2 + cln (sprL tx ty st ks p).1 ≤ p.2.2 + cln p.1)
  | [], p, _, _ => ⟨Nat.le_refl _, Nat.le_refl _, Nat.le_refl _, fun _ => Nat.le_refl _⟩
  | k :: ks, p, h, hp => by
    have hm := h k List.mem_cons_self
    have h1 := sprS_room (tx := tx) (ty := ty) hs p k hm hp
    have h3 := sprL_room (tx := tx) (ty := ty) hs h2 ks (sprS tx ty st p k) (fun q hq => h q (List.mem_cons_of_mem _ hq)) (sprS_ok (by omega) h2 p k hm hp)
    rw [sprL_cons, List.length_cons]
    exact ⟨by omega, by omega, by omega, fun e => by have := h1.2.2.2 e; have := h3.2.2.2 e; omega⟩
/-- No state goes down, but those of no cell of the list stay. -/
theorem sprS_up {tx ty st : Int} (p : Ms × List Cl × Nat) (k : Cl) (a b : Int) : stM p.1 a b ≤ stM (sprS tx ty st p k).1 a b := by
  by_cases h : (k.r = tx ∧ k.c = ty) ∨ st ≤ stM p.1 k.r k.c
  · rw [sprS_no h]; exact Int.le_refl _
  · rw [sprS_yes h]
    have hn : ¬ st ≤ stM p.1 k.r k.c := fun q => h (.inr q)
    by_cases t : a = k.r ∧ b = k.c
    · rw [t.1, t.2, stM_same]; omega
    · rw [stM_other t]; exact Int.le_refl _
theorem sprL_up {tx ty st : Int} : ∀ (ks : List Cl) (p : Ms × List Cl × Nat) (a b : Int), stM p.1 a b ≤ stM (sprL tx ty st ks p).1 a b
  | [], p, a, b => Int.le_refl _
  | k :: ks, p, a, b => Int.le_trans (sprS_up p k a b) (sprL_up ks _ a b)
theorem sprL_all {tx ty st : Int} : ∀ (ks : List Cl) (p : Ms × List Cl × Nat) (k : Cl), k ∈ ks → ¬ (k.r = tx ∧ k.c = ty) → st ≤ stM (sprL tx ty st ks p).1 k.r k.c
  | j :: ks, p, k, hk, ht => by
    rw [sprL_cons]
    rcases List.mem_cons.1 hk with e | hk
    · subst e
      refine Int.le_trans ?_ (sprL_up ks _ k.r k.c)
      by_cases h : (k.r = tx ∧ k.c = ty) ∨ st ≤ stM p.1 k.r k.c
      · rw [sprS_no h]
        exact h.elim (fun q => absurd q ht) id
      · rw [sprS_yes h, stM_same]
        exact Int.le_refl _
    · exact sprL_all ks _ k hk ht
/-- The touched cell stays as it is. -/
theorem sprS_tx {tx ty st : Int} (p : Ms × List Cl × Nat) (k : Cl) : (sprS tx ty st p k).1 tx ty = p.1 tx ty := by
  by_cases h : (k.r = tx ∧ k.c = ty) ∨ st ≤ stM p.1 k.r k.c
  · rw [sprS_no h]
  · rw [sprS_yes h]
    exact upM_other (fun t => h (.inl ⟨t.1.symm, t.2.symm⟩))
theorem sprL_tx {tx ty st : Int} : ∀ (ks : List Cl) (p : Ms × List Cl × Nat), (sprL tx ty st ks p).1 tx ty = p.1 tx ty
  | [], p => rfl
  | k :: ks, p => (sprL_tx ks _).trans (sprS_tx p k)
/-- Where all are marked already nothing happens. -/
theorem sprL_still {tx ty st : Int} : ∀ (ks : List Cl) (p : Ms × List Cl × Nat), (∀ k ∈ ks, (k.r = tx ∧ k.c = ty) ∨ st ≤ stM p.1 k.r k.c) → sprL tx ty st ks p = p
  | [], p, _ => rfl
  | k :: ks, p, h => by
    rw [sprL_cons, sprS_no (h k List.mem_cons_self)]
    exact sprL_still ks p (fun q hq => h q (List.mem_cons_of_mem _ hq))
end Go.Proofs.YtcjanaldjokllaaGreat
