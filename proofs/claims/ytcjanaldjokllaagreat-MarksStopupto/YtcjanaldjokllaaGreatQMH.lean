/- The document's marks in memory; Clean. -/
import Derived.Test.YtcjanaldjokllaaGreatQMG
namespace Go.Proofs.YtcjanaldjokllaaGreat
open Go.RowKit Go.Shelf
set_option linter.all false
/-- The document's marks at R over its Deps at Re: the list l, the peak; the blocks of F are none of its own. -/
def Rm (F : Nat → Prop) (w : World) (R Re : Nat) (l : List Mk) (pk : Int) : Prop := ∃ v, Own w R #[v, .pointer (some ⟨Re, 0, none⟩), .int .i64 pk] ∧ RowX w 0 v l ∧ (∀ g, v.ownBlock = some g → g ≠ R ∧ ¬ F g)
section
variable {F : Nat → Prop} {w : World} {R Re : Nat} {l : List Mk} {pk : Int}
theorem Rm.keep {w' : World} (h : Rm F w R Re l pk) (hb : Below w.heap.size w w') : Rm F w' R Re l pk := by
  obtain ⟨v, h1, h2, h3⟩ := h
  exact ⟨v, h1.keep hb, RowG.keep h2 hb, h3⟩
theorem Rm.turn {S : Nat → Prop} {w' : World} (h : Rm F w R Re l pk) (hm : Mut S w w') (h1 : ¬ S R) (h2 : ∀ b, S b → F b) : Rm F w' R Re l pk := by
  obtain ⟨v, k1, k2, k3⟩ := h
  exact ⟨v, k1.mut hm h1, RowG.mut k2 hm (fun g q s => (k3 g q).2 (h2 g s)), k3⟩
theorem Rm.fresh {G : Nat → Prop} (h : Rm F w R Re l pk) (hG : ∀ b, G b → F b ∨ w.heap.size ≤ b) : Rm G w R Re l pk := by
  obtain ⟨v, k1, k2, k3⟩ := h
  exact ⟨v, k1, k2, fun g q => ⟨(k3 g q).1, fun s => (hG g s).elim (k3 g q).2 (fun t => by have := (RowG.lt k2 g q).2; omega)⟩⟩
theorem Rm.lt (h : Rm F w R Re l pk) : R < w.heap.size := by
  obtain ⟨v, h1, _⟩ := h
  exact h1.lt
theorem Rm.c1 (h : Rm F w R Re l pk) : w.cell? ⟨R, 1, none⟩ = some (.pointer (some ⟨Re, 0, none⟩)) := by
  obtain ⟨v, h1, _⟩ := h
  exact h1.cell 1
theorem Rm.c2 (h : Rm F w R Re l pk) : w.cell? ⟨R, 2, none⟩ = some (.int .i64 pk) := by
  obtain ⟨v, h1, _⟩ := h
  exact h1.cell 2
theorem Rm.fro (h : Rm F w R Re l pk) (o : Nat) : w.frozen? ⟨R, o, none⟩ = false := by
  obtain ⟨v, h1, _⟩ := h
  exact h1.fro o
theorem Rm.peak (h : Rm F w R Re l pk) (v : Int) : Rm F (w.setCell ⟨R, 2, none⟩ (.int .i64 v)) R Re l v := by
  obtain ⟨u, h1, h2, h3⟩ := h
  exact ⟨u, own_put' (k := 2) h1 (by simp), RowG.aside h2 _ (fun g q => (h3 g q).1), h3⟩
theorem rstate_rm (h : Rm F w R Re l pk) (x y : Int) : Calls Tryz.prog 52 #[.pointer (some ⟨R, 0, none⟩), .agg #[.int .i64 x, .int .i64 y]] w fun e w' => e = .returned (.tuple #[.int .i64 (stM (stL l) x y), .bool (stL l x y).isSome]) ∧ Below w.heap.size w w' := by
  obtain ⟨v, h1, h2, _⟩ := h
  exact rstate_any w R Re v l pk x y h1 h2
theorem rput_rm (h : Rm F w R Re l pk) (x y s : Int) (hl : l.length ≤ 3900000000000) : Calls Tryz.prog 51 #[.pointer (some ⟨R, 0, none⟩), .agg #[.int .i64 x, .int .i64 y], .int .i64 s] w fun e w' => e = .returned (.tuple #[]) ∧ ∃ l', Rm (fun b => b < w.heap.size) w' R Re l' pk ∧ stL l' = upM (stL l) x y (if 0 ≤ s then some s else none) ∧ l'.length ≤ l.length + 1 ∧ Mut (fun b => b = R) w w' := by
  have hlt := h.lt
  obtain ⟨v, h1, h2, _⟩ := h
  refine (rput_any w R Re v l pk x y s h1 h2 hl).mono ?_
  rintro e w' ⟨rfl, v', l', k1, k2, k3, k4, k5, k6⟩
  exact ⟨rfl, l', ⟨v', k1, k2, fun g q => ⟨by have := k3 g q; omega, by have := k3 g q; omega⟩⟩, k4, k5, k6⟩
set_option maxRecDepth 100000 in
set_option maxHeartbeats 2000000 in
theorem rclean_rm (h : Rm F w R Re l pk) (x y : Int) (hl : l.length ≤ 3900000000000) : Calls Tryz.prog 29 #[.pointer (some ⟨R, 0, none⟩), .agg #[.int .i64 x, .int .i64 y]] w fun e w' => e = .returned (.tuple #[]) ∧ ((clM (stL l) x y = stL l ∧ Below w.heap.size w w') ∨ ∃ l', Rm (fun b => b < w.heap.size) w' R Re l' pk ∧ stL l' = clM (stL l) x y ∧ l'.length ≤ l.length + 1 ∧ Mut (fun b => b = R) w w') := by
  have mixed : Tryz.prog.follows .mixedOrders = true := by kernel_rfl
  have HR : Hid (Rm F w R Re l pk) := h
  have HSt : Hid (∀ W, Below w.heap.size w W → Calls Tryz.prog 52 #[.pointer (some ⟨R, 0, none⟩), .agg #[.int .i64 x, .int .i64 y]] W fun e w' => e = .returned (.tuple #[.int .i64 (stM (stL l) x y), .bool (stL l x y).isSome]) ∧ Below W.heap.size W w') := (show _ from fun W hb => rstate_rm (h.keep hb) x y)
  have HPu : Hid (∀ W, Below w.heap.size w W → Calls Tryz.prog 51 #[.pointer (some ⟨R, 0, none⟩), .agg #[.int .i64 x, .int .i64 y], .int .i64 0] W fun e w' => e = .returned (.tuple #[]) ∧ ∃ l', Rm (fun b => b < w.heap.size) w' R Re l' pk ∧ stL l' = upM (stL l) x y (some 0) ∧ l'.length ≤ l.length + 1 ∧ Mut (fun b => b = R) W w') := (show _ from fun W hb => (rput_rm (h.keep hb) x y 0 hl).mono (by
    rintro e w' ⟨rfl, l', k1, k2⟩
    exact ⟨rfl, l', k1.fresh (fun b q => .inl (Nat.lt_of_lt_of_le q hb.size)), k2⟩))
  clear h
  cases hi : (stL l x y).isSome with
  | false =>
    have HC : Hid (clM (stL l) x y = stL l) := (show _ = _ from by unfold clM; rw [hi]; rfl)
    rw [hi] at HSt
    clear hi HPu
    go_enter Tryz.func29, Tryz.ntmps29
    go_wp2_with (go_at_call 52; refine (HSt.out _ zqb).mono ?_; rintro e wa ⟨rfl, hb⟩; have hBa : Below w.heap.size w wa := bup zqb hb; clear hb)
    go_end0
    exact ⟨rfl, .inl ⟨HC.out, by with_reducible (repeat' first | assumption | exact Below.refl _ _ | refine Below.drew ?_ | refine bdrewN ?_ _ | refine Below.setCell ?_ (by first | exact Nat.le_refl _ | (simp; done) | (simp; omega) | omega) _ | refine Below.alloc ?_ (by first | exact Nat.le_refl _ | (simp; done) | (simp; omega) | omega) _)⟩⟩
  | true =>
    have HC : Hid (clM (stL l) x y = upM (stL l) x y (some 0)) := (show _ = _ from by unfold clM; rw [hi]; rfl)
    rw [hi] at HSt
    clear hi
    go_enter Tryz.func29, Tryz.ntmps29
    go_wp2_with (first
      | (go_at_call 52; refine (HSt.out _ zqb).mono ?_; rintro e wa ⟨rfl, hb⟩; have hBa : Below w.heap.size w wa := bup zqb hb; have oCa : Own wa w.heap.size #[.int .i64 x, .int .i64 y] := Own.keep (by with_reducible (repeat' first | assumption | refine Own.drew ?_ | refine Own.drewN ?_ _ | (refine Own.at ?_; first | rfl | (simp; done)) | refine Own.past ?_ _)) hb; have c0 : wa.cell? ⟨w.heap.size, 0, none⟩ = some (.int .i64 x) := oCa.cell 0; have c1 : wa.cell? ⟨w.heap.size, 1, none⟩ = some (.int .i64 y) := oCa.cell 1; have lCa := oCa.lt; clear hb)
      | (go_at_call 51; refine (HPu.out _ zqb).mono ?_; rintro e wb ⟨rfl, l', q1, q2, q3, q4⟩; have HR2 : Hid (Rm (fun b => b < w.heap.size) wb R Re l' pk) := q1; have HS2 : Hid (stL l' = upM (stL l) x y (some 0)) := q2; have HL2 : Hid (l'.length ≤ l.length + 1) := q3; have HU2 : Hid (Mut (fun b => b = R) w wb) := (show Mut _ _ _ from (Mut.of_below zqb).call q4 (fun b q => .inl q)); clear q1 q2 q3 q4))
    go_end0
    exact ⟨rfl, .inr ⟨l', HR2.out, HS2.out.trans HC.out.symm, HL2.out, HU2.out⟩⟩
end
theorem DR.rdir {F : Nat → Prop} {w : World} {N R : Nat} {Da Db : List Dv} (h : DR F w N Da R Db) (hs : cst Db ≤ 1048576) {Rk : Nat} (hR : F Rk) : ∀ W a b, Mut (fun k => k = Rk) w W → Calls Tryz.prog 12 #[.pointer (some ⟨R, 0, none⟩), .agg #[.int .i64 a, .int .i64 b]] W fun e w' => ∃ u, e = .returned u ∧ ∃ k, RowG 32 2 Cl.cs w' W.heap.size u k ∧ IsWho (runE Db) a b k ∧ Below W.heap.size W w' :=
  fun W a b hm => drr_dir W F N R Da Db a b (h.turn hm (fun k q => by rw [q]; exact hR)) hs
end Go.Proofs.YtcjanaldjokllaaGreat
