/- The law's two marks side by side, each over its Deps: what each call makes of the whole. No function's text is walked here. · The law's pick, refsOf and begin. -/
import Derived.Test.YtcjanaldjokllaaGreatQMI
namespace Go.Proofs.YtcjanaldjokllaaGreat
open Go.RowKit Go.Shelf
set_option linter.all false
/-- What is none of the two Deps': the blocks of F, the four blocks of the law's and the marks', the list of states. -/
abbrev Fb (F : Nat → Prop) (K N bm R : Nat) (v : Value) : Nat → Prop := fun b => F b ∨ b = K ∨ b = N ∨ b = bm ∨ b = R ∨ v.ownBlock = some b
/-- Both at K: the program's Deps at Nd behind Da, its marks at N; the document's Deps at Re behind Db, its marks at R. -/
structure Bx (F : Nat → Prop) (w : World) (K N Nd bm R Re n : Nat) (M : Ms) (pk : Int) (Da Db : List Dv) (l : List Mk) (pr : Int) : Prop where
  own : Own w K #[.pointer (some ⟨Nd, 0, none⟩), .pointer (some ⟨N, 0, none⟩), .pointer (some ⟨Re, 0, none⟩), .pointer (some ⟨R, 0, none⟩)]
  mm : Mm w N Nd bm n M pk
  ok : OkM M
  rm : ∃ v, Own w R #[v, .pointer (some ⟨Re, 0, none⟩), .int .i64 pr] ∧ RowX w 0 v l ∧ (∀ g, v.ownBlock = some g → g ≠ R ∧ ¬ (F g ∨ g = K ∨ g = N ∨ g = bm)) ∧ DR (Fb F K N bm R v) w Nd Da Re Db
  ge : ¬ F K ∧ ¬ F N ∧ ¬ F bm ∧ ¬ F R
  ne : K ≠ N ∧ K ≠ bm ∧ K ≠ R ∧ N ≠ R ∧ bm ≠ R
section
variable {F : Nat → Prop} {w : World} {K N Nd bm R Re n : Nat} {M : Ms} {pk : Int} {Da Db : List Dv} {l : List Mk} {pr : Int}
theorem Bx.keep (h : Bx F w K N Nd bm R Re n M pk Da Db l pr) {w' : World} (hb : Below w.heap.size w w') : Bx F w' K N Nd bm R Re n M pk Da Db l pr := by
  obtain ⟨v, h1, h2, h3, h4⟩ := h.rm
  exact ⟨h.own.keep hb, h.mm.keep hb, h.ok, ⟨v, h1.keep hb, RowG.keep h2 hb, h3, h4.keep hb⟩, h.ge, h.ne⟩
theorem Bx.fresh (h : Bx F w K N Nd bm R Re n M pk Da Db l pr) {G : Nat → Prop} (hG : ∀ b, G b → F b ∨ w.heap.size ≤ b) : Bx G w K N Nd bm R Re n M pk Da Db l pr := by
  obtain ⟨v, h1, h2, h3, h4⟩ := h.rm
  have g := h.ge
  have lK := h.own.lt
  have lN := h.mm.own.lt
  have lB := MapF.lt h.mm.map
  have lR := h1.lt
  refine ⟨h.own, h.mm, h.ok, ⟨v, h1, h2, fun b q => ⟨(h3 b q).1, fun s => ?_⟩, h4.fresh (fun b q => ?_)⟩, ⟨fun q => (hG _ q).elim g.1 (fun t => by omega), fun q => (hG _ q).elim g.2.1 (fun t => by omega), fun q => (hG _ q).elim g.2.2.1 (fun t => by omega), fun q => (hG _ q).elim g.2.2.2 (fun t => by omega)⟩, h.ne⟩
  · rcases s with s | s
    · rcases hG b s with t | t
      · exact (h3 b q).2 (.inl t)
      · have := (RowG.lt h2 b q).2; omega
    · exact (h3 b q).2 (.inr s)
  · rcases q with q | q
    · rcases hG b q with t | t
      · exact .inl (.inl t)
      · exact .inr t
    · exact .inl (.inr q)
theorem Bx.rmF (h : Bx F w K N Nd bm R Re n M pk Da Db l pr) : Rm (fun g => F g ∨ g = K ∨ g = N ∨ g = bm) w R Re l pr := by
  obtain ⟨v, h1, h2, h3, h4⟩ := h.rm
  exact ⟨v, h1, h2, h3⟩
theorem Bx.dw (h : Bx F w K N Nd bm R Re n M pk Da Db l pr) : Dw (fun b => b = N ∨ b = bm) w Nd Da := by
  obtain ⟨v, h1, h2, h3, h4⟩ := h.rm
  exact h4.dw.fresh (fun b q => .inl (q.elim (fun q => .inr (.inr (.inl q))) (fun q => .inr (.inr (.inr (.inl q))))))
theorem Bx.rdir (h : Bx F w K N Nd bm R Re n M pk Da Db l pr) (hs : cst Db ≤ 1048576) : ∀ W a b, Mut (fun k => k = R) w W → Calls Tryz.prog 12 #[.pointer (some ⟨Re, 0, none⟩), .agg #[.int .i64 a, .int .i64 b]] W fun e w' => ∃ u, e = .returned u ∧ ∃ k, RowG 32 2 Cl.cs w' W.heap.size u k ∧ IsWho (runE Db) a b k ∧ Below W.heap.size W w' := by
  obtain ⟨v, h1, h2, h3, h4⟩ := h.rm
  exact h4.rdir hs (.inr (.inr (.inr (.inr (.inl rfl)))))
/-- The program's marks were turned. -/
theorem Bx.mmut (h : Bx F w K N Nd bm R Re n M pk Da Db l pr) (h0 : ∀ b, F b → b < w.heap.size) {w' : World} {n' : Nat} {M' : Ms} {pk' : Int} (hm : Mut (fun b => b = N ∨ b = bm) w w') (h' : Mm w' N Nd bm n' M' pk') (hok : OkM M') : Bx F w' K N Nd bm R Re n' M' pk' Da Db l pr ∧ Mut (fun b => ¬ F b) w w' := by
  obtain ⟨v, h1, h2, h3, h4⟩ := h.rm
  have g := h.ge
  have e := h.ne
  refine ⟨⟨h.own.mut hm (fun q => q.elim e.1 e.2.1), h', hok, ⟨v, h1.mut hm (fun q => q.elim (fun q => e.2.2.2.1 q.symm) (fun q => e.2.2.2.2 q.symm)), RowG.mut h2 hm (fun b q s => (h3 b q).2 (s.elim (fun s => .inr (.inr (.inl s))) (fun s => .inr (.inr (.inr s))))), h3, h4.turn hm (fun b q => q.elim (fun q => .inr (.inr (.inl q))) (fun q => .inr (.inr (.inr (.inl q)))))⟩, g, e⟩, Mut.wide hm (fun b q s => by rcases q with q | q; exact g.2.1 (q ▸ s); exact g.2.2.1 (q ▸ s))⟩
/-- The document's marks were turned. -/
theorem Bx.rmut (h : Bx F w K N Nd bm R Re n M pk Da Db l pr) (h0 : ∀ b, F b → b < w.heap.size) {w' : World} {l' : List Mk} {pr' : Int} (hm : Mut (fun b => b = R) w w') (h' : Rm (fun b => b < w.heap.size) w' R Re l' pr') : Bx F w' K N Nd bm R Re n M pk Da Db l' pr' ∧ Mut (fun b => ¬ F b) w w' := by
  obtain ⟨v, h1, h2, h3, h4⟩ := h.rm
  obtain ⟨v', k1, k2, k3⟩ := h'
  have g := h.ge
  have e := h.ne
  have lK := h.own.lt
  have lN := h.mm.own.lt
  have lB := MapF.lt h.mm.map
  refine ⟨⟨h.own.mut hm (fun q => e.2.2.1 q), h.mm.mut hm (fun q => e.2.2.2.1 q) (fun q => e.2.2.2.2 q), h.ok, ⟨v', k1, k2, fun b q => ⟨(k3 b q).1, fun s => by have := (k3 b q).2; rcases s with s | s | s | s; exact this (h0 b s); omega; omega; omega⟩, ?_⟩, g, e⟩, Mut.wide hm (fun b q s => g.2.2.2 (q ▸ s))⟩
  have j1 : DR (fun b => Fb F K N bm R v b ∨ w.heap.size ≤ b) w Nd Da Re Db := h4.fresh (fun b q => q)
  have j2 := j1.turn hm (fun b q => .inl (.inr (.inr (.inr (.inr (.inl q))))))
  exact j2.fresh (fun b q => .inl (by
    rcases q with q | q | q | q | q | q
    · exact .inl (.inl q)
    · exact .inl (.inr (.inl q))
    · exact .inl (.inr (.inr (.inl q)))
    · exact .inl (.inr (.inr (.inr (.inl q))))
    · exact .inl (.inr (.inr (.inr (.inr (.inl q)))))
    · exact .inr (by have := (k3 b q).2; omega)))
theorem Bx.lt (h : Bx F w K N Nd bm R Re n M pk Da Db l pr) (h0 : ∀ b, F b → b < w.heap.size) {v : Value} (h1 : Own w R #[v, .pointer (some ⟨Re, 0, none⟩), .int .i64 pr]) (h2 : RowX w 0 v l) : ∀ b, Fb F K N bm R v b → b < w.heap.size := fun b q => by
  have lK := h.own.lt
  have lN := h.mm.own.lt
  have lB := MapF.lt h.mm.map
  have lR := h1.lt
  rcases q with q | q | q | q | q | q
  · exact h0 b q
  · omega
  · omega
  · omega
  · omega
  · exact (RowG.lt h2 b q).2
/-- A Deps was turned. -/
theorem Bx.dmut (h : Bx F w K N Nd bm R Re n M pk Da Db l pr) (h0 : ∀ b, F b → b < w.heap.size) {w' : World} {v : Value} {Da' Db' : List Dv} (h1 : Own w R #[v, .pointer (some ⟨Re, 0, none⟩), .int .i64 pr]) (h2 : RowX w 0 v l) (h3 : ∀ g, v.ownBlock = some g → g ≠ R ∧ ¬ (F g ∨ g = K ∨ g = N ∨ g = bm)) (hm : Mut (fun b => ¬ Fb F K N bm R v b) w w') (hd : DR (Fb F K N bm R v) w' Nd Da' Re Db') : Bx F w' K N Nd bm R Re n M pk Da' Db' l pr ∧ Mut (fun b => ¬ F b) w w' :=
  ⟨⟨h.own.mut hm (fun q => q (.inr (.inl rfl))), h.mm.mut hm (fun q => q (.inr (.inr (.inl rfl)))) (fun q => q (.inr (.inr (.inr (.inl rfl))))), h.ok, ⟨v, h1.mut hm (fun q => q (.inr (.inr (.inr (.inr (.inl rfl)))))), RowG.mut h2 hm (fun g q s => s (.inr (.inr (.inr (.inr (.inr q)))))), h3, hd⟩, h.ge, h.ne⟩, Mut.wide hm (fun b q s => q (.inl s))⟩
theorem bx_set (h : Bx F w K N Nd bm R Re n M pk Da Db l pr) (h0 : ∀ b, F b → b < w.heap.size) (d : Dv) (hv : VF w d.v d.l) (hvb : ∀ p n c, d.v = .slice (some p) n c → 0 < n → F p.block) (hs : cst (Da ++ [d]) ≤ 1048576) : Calls Tryz.prog 10 #[.pointer (some ⟨Nd, 0, none⟩), .agg #[.int .i64 d.r, .int .i64 d.c], d.v] w fun e w' => e = .returned (.int .i64 d.err) ∧ Bx F w' K N Nd bm R Re n M pk (Da ++ [d]) Db l pr ∧ Mut (fun b => ¬ F b) w w' := by
  obtain ⟨v, h1, h2, h3, h4⟩ := h.rm
  refine (drd_set w _ Nd Re Da Db d h4 (h.lt h0 h1 h2) hv (fun p n c e q => .inl (hvb p n c e q)) hs).mono ?_
  rintro e w' ⟨rfl, k1, k2⟩
  exact ⟨rfl, h.dmut h0 h1 h2 h3 k2 k1⟩
theorem bx_rset (h : Bx F w K N Nd bm R Re n M pk Da Db l pr) (h0 : ∀ b, F b → b < w.heap.size) (d : Dv) (hv : VF w d.v d.l) (hs : cst (Db ++ [d]) ≤ 1048576) : Calls Tryz.prog 26 #[.pointer (some ⟨Re, 0, none⟩), .agg #[.int .i64 d.r, .int .i64 d.c], d.v] w fun e w' => e = .returned (.int .i64 d.err) ∧ Bx F w' K N Nd bm R Re n M pk Da (Db ++ [d]) l pr ∧ Mut (fun b => ¬ F b) w w' := by
  obtain ⟨v, h1, h2, h3, h4⟩ := h.rm
  refine (drr_set w _ Nd Re Da Db d h4 (h.lt h0 h1 h2) hv hs).mono ?_
  rintro e w' ⟨rfl, k1, k2⟩
  exact ⟨rfl, h.dmut h0 h1 h2 h3 k2 k1⟩
theorem mayC_i64 {x y : Int} (h : mayC x y = true) : I64 x ∧ I64 y := by
  have := mayC_is h
  exact ⟨by constructor <;> omega, by constructor <;> omega⟩
/-- The program's Touch, whatever it comes to. -/
theorem bx_touch (h : Bx F w K N Nd bm R Re n M pk Da Db l pr) (h0 : ∀ b, F b → b < w.heap.size) (x y : Int) (f : Bool) (hn : n ≤ 2000000000000000) : Calls Tryz.prog 17 #[.pointer (some ⟨N, 0, none⟩), .agg #[.int .i64 x, .int .i64 y], .bool f] w fun e w' => e = .returned (.tuple #[]) ∧ ∃ n' M' pk', Bx F w' K N Nd bm R Re n' M' pk' Da Db l pr ∧ n' ≤ n + 2097153 ∧ Mut (fun b => ¬ F b) w w' := by
  cases hm : mayC x y with
  | false =>
    refine (mtouch_no w N Nd bm n M pk Da (fun _ => True) x y f h.mm hm).mono ?_
    rintro e w' ⟨rfl, k1, k2⟩
    have j := h.mmut h0 k2 k1 h.ok
    exact ⟨rfl, n, M, 0, j.1, by omega, j.2⟩
  | true =>
    have hxy := mayC_i64 hm
    refine (mtouch_yes w N Nd bm n M pk Da (fun b => b = N ∨ b = bm) x y f (fun _ _ _ => True) h.mm h.dw h.ok hxy.1 hxy.2 (.inl rfl) (.inr rfl) hm hn (fun _ _ _ => trivial) (fun _ _ _ _ _ _ _ _ _ => trivial)).mono ?_
    rintro e w' ⟨rfl, M2, pk2, c, _, k1, k2, k3, _, _, k4⟩
    have j := h.mmut h0 k4 k2 k1
    exact ⟨rfl, c, M2, pk2, j.1, k3, j.2⟩
/-- The document's Touch. -/
theorem bx_rtouch (h : Bx F w K N Nd bm R Re n M pk Da Db l pr) (h0 : ∀ b, F b → b < w.heap.size) (x y : Int) (f : Bool) (hl : l.length ≤ 3000000000000) (hs : cst Db ≤ 1048576) : Calls Tryz.prog 27 #[.pointer (some ⟨R, 0, none⟩), .agg #[.int .i64 x, .int .i64 y], .bool f] w fun e w' => e = .returned (.tuple #[]) ∧ ∃ l' pr', Bx F w' K N Nd bm R Re n M pk Da Db l' pr' ∧ l'.length ≤ l.length + 2097155 ∧ Mut (fun b => ¬ F b) w w' := by
  cases hm : mayC x y with
  | false =>
    refine (rtouch_no f h.rmF x y hm).mono ?_
    rintro e w' ⟨rfl, _, k2⟩
    exact ⟨rfl, l, pr, h.keep k2, by omega, Mut.of_below k2⟩
  | true =>
    refine (rtouch_yes f Db h.rmF x y hm hl (h.rdir hs)).mono ?_
    rintro e w' ⟨rfl, l', pk', k1, k2, k3⟩
    have j := h.rmut h0 k3 k1
    exact ⟨rfl, l', pk', j.1, k2, j.2⟩
theorem clM_ok {M : Ms} (h : OkM M) (x y : Int) : OkM (clM M x y) := by
  unfold clM
  cases hi : M x y with
  | none => exact h
  | some s => exact h.up (by omega) (by omega) (h x y s hi).2.2
theorem bx_clean (h : Bx F w K N Nd bm R Re n M pk Da Db l pr) (h0 : ∀ b, F b → b < w.heap.size) (x y : Int) (hx : I64 x) (hy : I64 y) (hn : n ≤ 4000000000000000) : Calls Tryz.prog 28 #[.pointer (some ⟨N, 0, none⟩), .agg #[.int .i64 x, .int .i64 y]] w fun e w' => e = .returned (.tuple #[]) ∧ Bx F w' K N Nd bm R Re (n + 1) (clM M x y) pk Da Db l pr ∧ Mut (fun b => ¬ F b) w w' := by
  refine (mclean_any w N Nd bm n M pk x y h.mm hx hy hn).mono ?_
  rintro e w' ⟨rfl, k1, k2⟩
  exact ⟨rfl, h.mmut h0 (Mut.wide k2 (fun b q => .inr q)) k1 (clM_ok h.ok x y)⟩
theorem bx_rclean (h : Bx F w K N Nd bm R Re n M pk Da Db l pr) (h0 : ∀ b, F b → b < w.heap.size) (x y : Int) (hl : l.length ≤ 3900000000000) : Calls Tryz.prog 29 #[.pointer (some ⟨R, 0, none⟩), .agg #[.int .i64 x, .int .i64 y]] w fun e w' => e = .returned (.tuple #[]) ∧ ∃ l', Bx F w' K N Nd bm R Re n M pk Da Db l' pr ∧ l'.length ≤ l.length + 1 ∧ Mut (fun b => ¬ F b) w w' := by
  refine (rclean_rm h.rmF x y hl).mono ?_
  rintro e w' ⟨rfl, ⟨_, k2⟩ | ⟨l', k1, _, k3, k4⟩⟩
  · exact ⟨rfl, l, h.keep k2, by omega, Mut.of_below k2⟩
  · have j := h.rmut h0 k4 k1
    exact ⟨rfl, l', j.1, k3, j.2⟩
end
end Go.Proofs.YtcjanaldjokllaaGreat
namespace Go.Proofs.YtcjanaldjokllaaGreat
open Go.RowKit Go.Shelf
set_option linter.all false
theorem tmod4 (a : Int) (h : 0 ≤ a) : 0 ≤ a.tmod 4 ∧ a.tmod 4 < 4 := by
  rw [Int.tmod_eq_emod_of_nonneg h]
  omega
theorem pick_any (c : Int) (hc : I64 c) (w : World) : Calls Tryz.prog 8 #[.int .i64 c, .int .i64 4] w fun e w' => ∃ k, e = .returned (.int .i64 k) ∧ 0 ≤ k ∧ k < 4 ∧ Below w.heap.size w w' := by
  obtain ⟨h1, h2⟩ := hc
  by_cases h : c < 0
  · have hw1 : IntKind.i64.wrap (c + 1) = c + 1 := by rw [IntKind.wrap_i64]; omega
    have hw2 : IntKind.i64.wrap (-(c + 1)) = -(c + 1) := by rw [IntKind.wrap_i64]; omega
    have h3 := tmod4 (-(c + 1)) (by omega)
    have hw3 : IntKind.i64.wrap ((-(c + 1)).tmod 4) = (-(c + 1)).tmod 4 := by rw [IntKind.wrap_i64]; omega
    rw [Int.neg_tmod] at h3 hw3
    go_enter Tryz.func8, Tryz.ntmps8
    go_wp2
    go_ret
    exact ⟨_, rfl, h3.1, h3.2, by with_reducible (repeat' first | assumption | exact Below.refl _ _ | refine Below.drew ?_ | refine bdrewN ?_ _ | refine Below.setCell ?_ (by first | exact Nat.le_refl _ | (simp; done) | (simp; omega) | omega) _ | refine Below.alloc ?_ (by first | exact Nat.le_refl _ | (simp; done) | (simp; omega) | omega) _)⟩
  · have h3 := tmod4 c (by omega)
    have hw3 : IntKind.i64.wrap (c.tmod 4) = c.tmod 4 := by rw [IntKind.wrap_i64]; omega
    go_enter Tryz.func8, Tryz.ntmps8
    go_wp2
    go_ret
    exact ⟨_, rfl, by omega, by omega, by with_reducible (repeat' first | assumption | exact Below.refl _ _ | refine Below.drew ?_ | refine bdrewN ?_ _ | refine Below.setCell ?_ (by first | exact Nat.le_refl _ | (simp; done) | (simp; omega) | omega) _ | refine Below.alloc ?_ (by first | exact Nat.le_refl _ | (simp; done) | (simp; omega) | omega) _)⟩
/-- A list of references, one more. -/
def ApR (b : Nat) : Prop := ∀ W (v : Value) (L : List Rf) vb (x : Rf), RowG 53 5 Rf.cs W b v L → W.heap[vb]? = some (.cells x.cs.toArray 53 (0, 0)) → b ≤ W.heap.size → L.length ≤ 3000000000000 → ∀ ty, ∃ v' w', (Builtin.append_ #[33, 33] ty #[v, .slice (some ⟨vb, 0, none⟩) 1 1]).run Tryz.prog W = .ok v' w' ∧ RowG 53 5 Rf.cs w' b v' (L ++ [x]) ∧ Below b W w' ∧ (v'.ownBlock = v.ownBlock ∨ v'.ownBlock = some W.heap.size) ∧ Mut (fun b => v.ownBlock = some b) W w'
theorem apR (b : Nat) : ApR b := by
  obtain ⟨i0, hi0, hz0, hzs, hzb⟩ := info_parts infoRf
  exact fun W v L vb x r1 r2 r3 r4 ty => app_one Tryz.underlying33 hi0 hz0 hzs hzb rfl (by omega) Rf.len Rf.one r1 r2 r3 (by omega) (by omega) ty
set_option maxRecDepth 100000 in
set_option maxHeartbeats 8000000 in
theorem lrefs_any (w : World) (Re : Nat) (q : Option Addr) (n0 cap : Nat) (P : List Ed) (x y : Int) (hO : Own w Re #[.slice q n0 cap]) (hP : VL 7 Ed.cs w (.slice q n0 cap) P) (hl : P.length ≤ 2000000000000) : Calls Tryz.prog 9 #[.pointer (some ⟨Re, 0, none⟩), .agg #[.int .i64 x, .int .i64 y]] w fun e w' => ∃ q' n' c', e = .returned (.slice q' n' c') ∧ Below w.heap.size w w' := by
  have mixed : Tryz.prog.follows .mixedOrders = true := by kernel_rfl
  obtain ⟨q', cap', he, hc1, hc2, hq⟩ := hP
  simp only [Value.slice.injEq] at he
  obtain ⟨rfl, hn0, rfl⟩ := he
  obtain ⟨n, hn⟩ : ∃ n, n = P.length := ⟨_, rfl⟩
  rw [← hn] at hc1 hq hn0
  have HN : Hid (n = P.length) := hn
  subst hn0
  have lR0 := hO.lt
  have HR0 : Hid (w.cell? ⟨Re, 0, none⟩ = some (.slice q n0 cap)) := hO.cell 0
  have HQ : Hid _ := hq
  have HAP : Hid (ApR (w.heap.size + 1)) := apR _
  have HLn : Hid (n0 ≤ 2000000000000) := (show _ ≤ _ from by omega)
  clear hq hO hn hl
  obtain ⟨n, hnn⟩ : ∃ n, n = n0 := ⟨_, rfl⟩
  subst hnn
  go_enter Tryz.func9, Tryz.ntmps9
  go_wp2
  go_loopw [5, 6] (fun u5 u6 w' => ∃ (i : Nat) (L : List Rf), u6 = .int .i64 i ∧ i ≤ n ∧ L.length ≤ i ∧ Hid (RowG 53 5 Rf.cs w' (w.heap.size + 1) u5 L) ∧ Below w.heap.size w w' ∧ Hid (Own w' w.heap.size #[.int .i64 x, .int .i64 y])) (fun _ u6 _ => n - (intOf u6).toNat)
  case atStart => exact ⟨0, [], rfl, by omega, by simp, (show RowG _ _ _ _ _ _ _ from RowG.nil _), by with_reducible (repeat' first | assumption | exact Below.refl _ _ | refine Below.drew ?_ | refine bdrewN ?_ _ | refine Below.setCell ?_ (by first | exact Nat.le_refl _ | (simp; done) | (simp; omega) | omega) _ | refine Below.alloc ?_ (by first | exact Nat.le_refl _ | (simp; done) | (simp; omega) | omega) _), (show Own _ _ _ from by with_reducible (repeat' first | assumption | refine Own.drew ?_ | refine Own.drewN ?_ _ | (refine Own.at ?_; first | rfl | (simp; done)) | refine Own.past ?_ _))⟩
  case round =>
    obtain ⟨i, L, rfl, hi, hL, HRo, hB, HO⟩ := hrel
    have z := hB.size
    have oC := HO.out
    have c0 : wr.cell? ⟨w.heap.size, 0, none⟩ = some (.int .i64 x) := oC.cell 0
    have c1 : wr.cell? ⟨w.heap.size, 1, none⟩ = some (.int .i64 y) := oC.cell 1
    have lC := oC.lt
    have lRw : Re < wr.heap.size := by omega
    by_cases hin : i < n
    · have hin' : (i : Int) < n := by omega
      obtain ⟨e, hx⟩ : ∃ e, P[i]? = some e := ⟨_, List.getElem?_eq_getElem (by have := HN.out; omega)⟩
      obtain ⟨g, rfl, hg, hcl⟩ := HQ.out (by omega)
      have e0 : wr.cell? ⟨g, i * 7, none⟩ = some (.int .i64 e.r) := (hB.cell (p := ⟨g, i * 7, none⟩) hg).trans (hcl i e hx 0 _ rfl)
      have e1 : wr.cell? ⟨g, i * 7 + 1, none⟩ = some (.int .i64 e.c) := (hB.cell (p := ⟨g, i * 7 + 1, none⟩) hg).trans (hcl i e hx 1 _ rfl)
      have e2 : wr.cell? ⟨g, i * 7 + 2, none⟩ = some (.bool e.f.m) := (hB.cell (p := ⟨g, i * 7 + 2, none⟩) hg).trans (hcl i e hx 2 _ rfl)
      have e3 : wr.cell? ⟨g, i * 7 + 3, none⟩ = some (.int .i64 e.f.t) := (hB.cell (p := ⟨g, i * 7 + 3, none⟩) hg).trans (hcl i e hx 3 _ rfl)
      have e4 : wr.cell? ⟨g, i * 7 + 4, none⟩ = some (.int .i64 e.f.l) := (hB.cell (p := ⟨g, i * 7 + 4, none⟩) hg).trans (hcl i e hx 4 _ rfl)
      have e5 : wr.cell? ⟨g, i * 7 + 5, none⟩ = some (.int .i64 e.f.b) := (hB.cell (p := ⟨g, i * 7 + 5, none⟩) hg).trans (hcl i e hx 5 _ rfl)
      have e6 : wr.cell? ⟨g, i * 7 + 6, none⟩ = some (.int .i64 e.f.q) := (hB.cell (p := ⟨g, i * 7 + 6, none⟩) hg).trans (hcl i e hx 6 _ rfl)
      have r0 : wr.cell? ⟨Re, 0, none⟩ = some (.slice (some ⟨g, 0, none⟩) n cap) := (hB.cell (p := ⟨Re, 0, none⟩) lR0).trans HR0.out
      have lg : g < wr.heap.size := by omega
      have HLL : Hid (L.length ≤ 2000000000000) := (show _ ≤ _ from by have := HLn.out; omega)
      clear hcl hx
      have he := eqC e.r e.c x y
      by_cases hs : e.r = x ∧ e.c = y
      · have hss : sameC e.r e.c x y = true := by unfold sameC; exact decide_eq_true hs
        rw [hss] at he
        clear hs hss
        go_wp2
        go_region_held3 (fun w' => w'.cell? ⟨Re, 0, none⟩ = some (.slice (some ⟨g, 0, none⟩) n cap) ∧ w'.cell? ⟨g, i * 7, none⟩ = some (.int .i64 e.r) ∧ w'.cell? ⟨g, i * 7 + 1, none⟩ = some (.int .i64 e.c) ∧ w'.cell? ⟨w.heap.size, 0, none⟩ = some (.int .i64 x) ∧ w'.cell? ⟨w.heap.size, 1, none⟩ = some (.int .i64 y)) ((repeat' apply And.intro) <;> (first | (go_keep; done) | (go_simp; done))) (fail)
        go_wp2_with (go_loud (at_builtin; refine wpList_appx rfl _ _ _ _ rfl _ (.slice (some ⟨wr.heap.size, 0, none⟩) 1 1) rfl rfl (HAP.out _ _ _ wr.heap.size e.f (RowG.keep HRo.out zqb) (heap_at (by first | rfl | (simp; done))) (by first | omega | (simp; omega)) (by have := HLL.out; omega)) (fun v6 w6 hq => ?_); obtain ⟨r1, r2, r3, r4⟩ := hq; have R6 : Hid (RowG 53 5 Rf.cs w6 (w.heap.size + 1) v6 (L ++ [e.f])) := r1; have hB6 : Below w.heap.size w w6 := (show Below w.heap.size w _ from by with_reducible (repeat' first | assumption | exact Below.refl _ _ | refine Below.drew ?_ | refine bdrewN ?_ _ | refine Below.setCell ?_ (by first | exact Nat.le_refl _ | (simp; done) | (simp; omega) | omega) _ | refine Below.alloc ?_ (by first | exact Nat.le_refl _ | (simp; done) | (simp; omega) | omega) _)).trans (r2.mono (by omega)); have o6 : Own w6 w.heap.size #[.int .i64 x, .int .i64 y] := Own.mut (by with_reducible (repeat' first | assumption | refine Own.drew ?_ | refine Own.drewN ?_ _ | (refine Own.at ?_; first | rfl | (simp; done)) | refine Own.past ?_ _)) r4 (fun q => by have := (RowG.lt HRo.out _ q).1; omega); clear r1 r2 r3 r4))
        exact ⟨⟨i + 1, L ++ [e.f], by go_num, by omega, by rw [List.length_append, List.length_singleton]; omega, (show RowG _ _ _ _ _ _ _ from RowG.keep R6.out zqb), by with_reducible (repeat' first | assumption | exact Below.refl _ _ | refine Below.drew ?_ | refine bdrewN ?_ _ | refine Below.setCell ?_ (by first | exact Nat.le_refl _ | (simp; done) | (simp; omega) | omega) _ | refine Below.alloc ?_ (by first | exact Nat.le_refl _ | (simp; done) | (simp; omega) | omega) _), (show Own _ _ _ from by with_reducible (repeat' first | assumption | refine Own.drew ?_ | refine Own.drewN ?_ _ | (refine Own.at ?_; first | rfl | (simp; done)) | refine Own.past ?_ _))⟩, by simp [intOf]; omega⟩
      · have hss : sameC e.r e.c x y = false := by unfold sameC; exact decide_eq_false hs
        rw [hss] at he
        clear hs hss
        go_wp2
        go_region_held3 (fun w' => w'.cell? ⟨Re, 0, none⟩ = some (.slice (some ⟨g, 0, none⟩) n cap) ∧ w'.cell? ⟨g, i * 7, none⟩ = some (.int .i64 e.r) ∧ w'.cell? ⟨g, i * 7 + 1, none⟩ = some (.int .i64 e.c) ∧ w'.cell? ⟨w.heap.size, 0, none⟩ = some (.int .i64 x) ∧ w'.cell? ⟨w.heap.size, 1, none⟩ = some (.int .i64 y)) ((repeat' apply And.intro) <;> (first | (go_keep; done) | (go_simp; done))) (fail)
        go_wp2
        exact ⟨⟨i + 1, L, by go_num, by omega, by omega, (show RowG _ _ _ _ _ _ _ from RowG.keep HRo.out zqb), by with_reducible (repeat' first | assumption | exact Below.refl _ _ | refine Below.drew ?_ | refine bdrewN ?_ _ | refine Below.setCell ?_ (by first | exact Nat.le_refl _ | (simp; done) | (simp; omega) | omega) _ | refine Below.alloc ?_ (by first | exact Nat.le_refl _ | (simp; done) | (simp; omega) | omega) _), (show Own _ _ _ from by with_reducible (repeat' first | assumption | refine Own.drew ?_ | refine Own.drewN ?_ _ | (refine Own.at ?_; first | rfl | (simp; done)) | refine Own.past ?_ _))⟩, by simp [intOf]; omega⟩
    · have hin' : ¬ ((i : Int) < n) := by omega
      have r0 : wr.cell? ⟨Re, 0, none⟩ = some (.slice q n cap) := (hB.cell (p := ⟨Re, 0, none⟩) lR0).trans HR0.out
      obtain ⟨q5, n5, c5, rfl⟩ := (show ∃ q n c, u5 = .slice q n c from RowG.sl HRo.out)
      go_wp2
      go_ret
      exact ⟨⟨_, _, _, rfl⟩, by with_reducible (repeat' first | assumption | exact Below.refl _ _ | refine Below.drew ?_ | refine bdrewN ?_ _ | refine Below.setCell ?_ (by first | exact Nat.le_refl _ | (simp; done) | (simp; omega) | omega) _ | refine Below.alloc ?_ (by first | exact Nat.le_refl _ | (simp; done) | (simp; omega) | omega) _)⟩
set_option maxRecDepth 100000 in
set_option maxHeartbeats 4000000 in
theorem lbegin_any (w : World) : Calls Tryz.prog 7 #[] w fun e w' => ∃ K N Nd bm R Re, e = .returned (.pointer (some ⟨K, 0, none⟩)) ∧ Bx (fun b => b < w.heap.size) w' K N Nd bm R Re 0 (fun _ _ => none) 0 [] [] [] 0 ∧ Below w.heap.size w w' := by
  have mixed : Tryz.prog.follows .mixedOrders = true := by kernel_rfl
  have H1 : Hid (∀ W, Calls Tryz.prog 19 #[] W fun e w' => ∃ N, e = .returned (.pointer (some ⟨N, 0, none⟩)) ∧ W.heap.size ≤ N ∧ Dw (fun b => b < W.heap.size) w' N [] ∧ Below W.heap.size W w') := (show _ from fun W => dnew_dw W)
  have H2 : Hid (∀ W Nd, Calls Tryz.prog 20 #[.pointer (some ⟨Nd, 0, none⟩)] W fun e w' => ∃ N bm, e = .returned (.pointer (some ⟨N, 0, none⟩)) ∧ Mm w' N Nd bm 0 (fun _ _ => none) 0 ∧ W.heap.size ≤ N ∧ W.heap.size ≤ bm ∧ Below W.heap.size W w') := (show _ from fun W Nd => mnew_any W Nd)
  go_enter Tryz.func7, Tryz.ntmps7
  go_wp2_with (first
    | (go_at_call 19; refine (H1.out _).mono ?_; rintro e wa ⟨Nd, rfl, p1, p2, hb⟩; have hBa : Below w.heap.size w wa := bup zqb hb; have HDa : Hid (Dw (fun b => b < w.heap.size) wa Nd []) := (show Dw _ _ _ _ from p2.fresh (fun b q => .inl (by first | exact q | (simp; omega)))); have za := hBa.size; clear p1 p2 hb)
    | (go_at_call 20; refine (H2.out _ _).mono ?_; rintro e wb ⟨N, bm, rfl, p1, p2, p3, hb⟩; have hBb : Below w.heap.size w wb := bup zqb hb; have HMb : Hid (Mm wb N Nd bm 0 (fun _ _ => none) 0) := p1; have oKb : Own wb (wa.heap.size + 1) #[.pointer (some ⟨Nd, 0, none⟩), .pointer none, .pointer (some ⟨wa.heap.size, 0, none⟩), .pointer none] := Own.keep (by with_reducible (repeat' first | assumption | refine Own.drew ?_ | refine Own.drewN ?_ _ | (refine Own.at ?_; first | rfl | (simp; done)) | refine Own.past ?_ _)) hb; have oEb : Own wb wa.heap.size #[.slice none 0 0] := Own.keep (by with_reducible (repeat' first | assumption | refine Own.drew ?_ | refine Own.drewN ?_ _ | (refine Own.at ?_; first | rfl | (simp; done)) | refine Own.past ?_ _)) hb; have HDb : Hid (DR (fun b => b < w.heap.size ∨ wa.heap.size + 1 ≤ b) wb Nd [] wa.heap.size []) := (show DR _ _ _ _ _ _ from ((((DR.made HDa.out (fun b q => by omega) (bal wa _) (Own.at rfl)).fresh (fun b q => by rcases q with q | q; exact .inl q; exact .inr (by simp; omega))).keep (by first | exact bal _ _ | with_reducible (repeat' first | assumption | exact Below.refl _ _ | refine Below.drew ?_ | refine bdrewN ?_ _ | refine Below.setCell ?_ (by first | exact Nat.le_refl _ | (simp; done) | (simp; omega) | omega) _ | refine Below.alloc ?_ (by first | exact Nat.le_refl _ | (simp; done) | (simp; omega) | omega) _))).keep hb)); have zb := hb.size; have lNb := p1.own.lt; have lbb := MapF.lt p1.map; have k0 : wb.cell? ⟨wa.heap.size + 1, 0, none⟩ = some (.pointer (some ⟨Nd, 0, none⟩)) := oKb.cell 0; have k1 : wb.cell? ⟨wa.heap.size + 1, 1, none⟩ = some (.pointer none) := oKb.cell 1; have k2 : wb.cell? ⟨wa.heap.size + 1, 2, none⟩ = some (.pointer (some ⟨wa.heap.size, 0, none⟩)) := oKb.cell 2; have k3 : wb.cell? ⟨wa.heap.size + 1, 3, none⟩ = some (.pointer none) := oKb.cell 3; have f1 : wb.frozen? ⟨wa.heap.size + 1, 1, none⟩ = false := oKb.fro 1; have f3 : wb.frozen? ⟨wa.heap.size + 1, 3, none⟩ = false := oKb.fro 3; have lKb := oKb.lt; simp at p2 p3 zb; clear p1 hb))
  have hU : Mut (fun b => b = wa.heap.size + 1) wb ((wb.setCell ⟨wa.heap.size + 1, 1, none⟩ (.pointer (some ⟨N, 0, none⟩))).setCell ⟨wa.heap.size + 1, 3, none⟩ (.pointer (some ⟨wb.heap.size, 0, none⟩))) := Mut.set (S := fun b => b = wa.heap.size + 1) (a := ⟨wa.heap.size + 1, 3, none⟩) (Mut.set (S := fun b => b = wa.heap.size + 1) (a := ⟨wa.heap.size + 1, 1, none⟩) (Mut.refl _ _) (.inl rfl) _) (.inl rfl) _
  have zz : ((wb.setCell ⟨wa.heap.size + 1, 1, none⟩ (.pointer (some ⟨N, 0, none⟩))).setCell ⟨wa.heap.size + 1, 3, none⟩ (.pointer (some ⟨wb.heap.size, 0, none⟩))).heap.size = wb.heap.size := by simp
  have j1 : Own ((wb.setCell ⟨wa.heap.size + 1, 1, none⟩ (.pointer (some ⟨N, 0, none⟩))).setCell ⟨wa.heap.size + 1, 3, none⟩ (.pointer (some ⟨wb.heap.size, 0, none⟩))) (wa.heap.size + 1) #[.pointer (some ⟨Nd, 0, none⟩), .pointer (some ⟨N, 0, none⟩), .pointer (some ⟨wa.heap.size, 0, none⟩), .pointer (some ⟨wb.heap.size, 0, none⟩)] := own_put' (k := 3) (own_put' (k := 1) oKb (by simp)) (by simp)
  have j2 := HMb.out.mut hU (fun q => by omega) (fun q => by omega)
  have j3 := HDb.out.turn hU (fun b q => .inr (by omega))
  have j4 : Below w.heap.size w ((wb.setCell ⟨wa.heap.size + 1, 1, none⟩ (.pointer (some ⟨N, 0, none⟩))).setCell ⟨wa.heap.size + 1, 3, none⟩ (.pointer (some ⟨wb.heap.size, 0, none⟩))) := hBb.trans (hU.to_below (by omega) (fun k q => by omega))
  go_ret
  refine ⟨wa.heap.size + 1, N, Nd, bm, wb.heap.size, wa.heap.size, rfl, ⟨j1.keep (bal _ _), j2.keep (bal _ _), (fun x y s e => by cases e), ⟨.slice none 0 0, Own.at (by simp), RowG.nil _, (fun g q => by cases q), (j3.keep (bal _ _)).fresh (fun b q => ?_)⟩, ⟨by omega, by omega, by omega, by omega⟩, ⟨by omega, by omega, by omega, by omega, by omega⟩⟩, j4.trans ((bal _ _).mono (by rw [zz]; omega))⟩
  rcases q with q | q | q | q | q | q
  · exact .inl (.inl q)
  · exact .inl (.inr (by omega))
  · exact .inl (.inr (by omega))
  · exact .inl (.inr (by omega))
  · exact .inl (.inr (by omega))
  · cases q
end Go.Proofs.YtcjanaldjokllaaGreat
