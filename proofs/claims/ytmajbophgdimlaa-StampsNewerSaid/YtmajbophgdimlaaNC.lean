/- StampsNewer: the clock, the list and the step at hand, side by side, at each call and each writing. No function's text is walked here. -/
import Derived.Test.YtmajbophgdimlaaNB
import Derived.Test.YtmajbophgdimlaaLB
import Derived.Test.YtmajbophgdimlaaLG
namespace Go.Proofs.Ytmajbophgdimlaa
open Go.RowKit
set_option linter.all false
theorem Cz.fresh {F T : Nat → Prop} {w : World} {N : Nat} {most last turns : Int} {S : St} {i : Nat} {L : List Cl} (h : Cz F w N most last turns S i L) (hT : ∀ b, T b → F b ∨ w.heap.size ≤ b) : Cz T w N most last turns S i L := by
  obtain ⟨bm, G, hc⟩ := h.ck
  exact { h with ck := ⟨bm, G, hc.fresh hT⟩ }
theorem Cz.turned {F T : Nat → Prop} {w w' : World} {N : Nat} {most last turns : Int} {S : St} {i : Nat} {L : List Cl} (h : Cz F w N most last turns S i L) (hm : Mut T w w') (hT : ∀ b, T b → F b) : Cz F w' N most last turns S i L := by
  obtain ⟨bm, G, hc⟩ := h.ck
  exact { h with ck := ⟨bm, G, hc.turn hm hT⟩ }
theorem cz_newer {F : Nat → Prop} {W : World} {N : Nat} {most last turns : Int} {S : St} {i : Nat} {L : List Cl} (h : Cz F W N most last turns S i L) (a b x y : Int) (ha : I64 a) (hb : I64 b) (hx : I64 x) (hy : I64 y) : Calls Try.prog 12 #[.pointer (some ⟨N, 0, none⟩), .agg #[.int .i64 a, .int .i64 b], .agg #[.int .i64 x, .int .i64 y]] W fun e w' => e = .returned (.bool (decide (sen S x y < chg S a b))) ∧ Below W.heap.size W w' := by
  obtain ⟨bm, G, hc⟩ := h.ck
  exact knewer_any W F N bm G most last turns S i a b x y hc ha hb hx hy
theorem lat_out (w : World) (base : Nat) (v : Value) (l : List We) (x y : Int) (h : RowW w base v l) (hl : l.length ≤ 4000000000000) (hn : ∀ e ∈ l, ¬ (e.r = x ∧ e.c = y)) : Calls Try.prog 7 #[v, .agg #[.int .i64 x, .int .i64 y]] w fun e w' => e = .returned (.int .i64 (l.length : Nat)) ∧ Below w.heap.size w w' := by
  refine (lat_any w base v l x y h hl).mono ?_
  rintro e w' ⟨p, rfl, q, hb⟩
  rcases q with ⟨f, q1, q2⟩ | ⟨q1, q2⟩
  · exact absurd q2 (hn f (List.mem_of_getElem? q1))
  · rw [q1]; exact ⟨rfl, hb⟩
theorem lat_in (w : World) (base : Nat) (v : Value) (l : List We) (x y : Int) (h : RowW w base v l) (hl : l.length ≤ 4000000000000) (hn : ¬ ∀ e ∈ l, ¬ (e.r = x ∧ e.c = y)) : Calls Try.prog 7 #[v, .agg #[.int .i64 x, .int .i64 y]] w fun e w' => ∃ (p : Nat) (f : We), e = .returned (.int .i64 p) ∧ l[p]? = some f ∧ f.r = x ∧ f.c = y ∧ Below w.heap.size w w' := by
  refine (lat_any w base v l x y h hl).mono ?_
  rintro e w' ⟨p, rfl, q, hb⟩
  rcases q with ⟨f, q1, q2⟩ | ⟨q1, q2⟩
  · exact ⟨p, f, rfl, q1, q2.1, q2.2, hb⟩
  · exact absurd q2 hn
structure Nx (b0 : Nat) (W : World) (N : Nat) (most last turns : Int) (S : St) (i : Nat) (L : List Cl) (v : Value) (l : List We) (xb : Nat) (A : Array Value) : Prop where
  cz : Cz (fun b => b < b0 ∨ v.ownBlock = some b ∨ b = xb) W N most last turns S i L
  row : RowW W b0 v l
  own : Own W xb A
  lo : b0 ≤ xb
  ne : v.ownBlock ≠ some xb
abbrev Fv (b0 : Nat) (v : Value) : Nat → Prop := fun b => b < b0 ∨ v.ownBlock = some b
theorem Nx.begin {b0 : Nat} {W W' : World} {N : Nat} {most last turns : Int} {S : St} {i : Nat} {L : List Cl} {v : Value} {l : List We} {xb : Nat} {A : Array Value} (hc : Cz (Fv b0 v) W N most last turns S i L) (hr : RowW W b0 v l) (hb : Below W.heap.size W W') (ho : Own W' xb A) (hx : W.heap.size ≤ xb) (h0 : b0 ≤ W.heap.size) : Nx b0 W' N most last turns S i L v l xb A :=
  ⟨(hc.fresh (fun b q => by
    rcases q with q | q | q
    · exact .inl (.inl q)
    · exact .inl (.inr q)
    · exact .inr (by omega))).keep hb, hr.keep hb, ho, by omega, fun q => by have := (hr.lt _ q).2; omega⟩
section
variable {b0 : Nat} {W : World} {N : Nat} {most last turns : Int} {S : St} {i : Nat} {L : List Cl} {v : Value} {l : List We} {xb : Nat} {A : Array Value}
theorem Nx.keep (h : Nx b0 W N most last turns S i L v l xb A) {W' : World} (hb : Below W.heap.size W W') : Nx b0 W' N most last turns S i L v l xb A :=
  ⟨h.cz.keep hb, h.row.keep hb, h.own.keep hb, h.lo, h.ne⟩
theorem Nx.czF (h : Nx b0 W N most last turns S i L v l xb A) : Cz (Fv b0 v) W N most last turns S i L :=
  h.cz.fresh (fun b q => .inl (q.elim .inl (fun q => .inr (.inl q))))
theorem Nx.more (h : Nx b0 W N most last turns S i L v l xb A) (c : Cl) : Nx b0 W N most last turns S (i + 1) (c :: L) v l xb A :=
  ⟨h.cz.more c, h.row, h.own, h.lo, h.ne⟩
theorem Nx.lt (h : Nx b0 W N most last turns S i L v l xb A) (h0 : b0 ≤ W.heap.size) : ∀ b, (b < b0 ∨ v.ownBlock = some b ∨ b = xb) → b < W.heap.size := fun b q => by
  have := h.own.lt
  rcases q with q | q | q
  · omega
  · exact (h.row.lt _ q).2
  · omega
theorem Nx.turned (h : Nx b0 W N most last turns S i L v l xb A) (h0 : b0 ≤ W.heap.size) {W' : World} (hm : Mut (fun b => ¬ (b < b0 ∨ v.ownBlock = some b ∨ b = xb)) W W') {last' turns' : Int} {S' : St} {i' : Nat} {L' : List Cl} (hc : Cz (fun b => b < b0 ∨ v.ownBlock = some b ∨ b = xb) W' N most last' turns' S' i' L') : Nx b0 W' N most last' turns' S' i' L' v l xb A ∧ Below b0 W W' :=
  ⟨⟨hc, h.row.mut hm (fun g q s => s (.inr (.inl q))), h.own.mut hm (fun s => s (.inr (.inr rfl))), h.lo, h.ne⟩, hm.to_below h0 (fun k q => by
    by_cases s : k < b0
    · exact absurd (.inl s) q
    · omega)⟩
theorem nx_change (h : Nx b0 W N most last turns S i L v l xb A) (h0 : b0 ≤ W.heap.size) (x y : Int) (hx : I64 x) (hy : I64 y) (hm : 2 ≤ most ∧ most ≤ 1099511627776) (hi : i ≤ 3600000000000) :
    Calls Try.prog 10 #[.pointer (some ⟨N, 0, none⟩), .agg #[.int .i64 x, .int .i64 y]] W fun e w' => ∃ (code last' turns' : Int) (S' : St), e = .returned (.int .i64 code) ∧ Nx b0 w' N most last' turns' S' (i + 1) (⟨x, y⟩ :: L) v l xb A ∧ Below b0 W w' ∧
      ((code = 3 ∧ mayC x y = false ∧ S' = S) ∨ (code = 50 ∧ mayC x y = true ∧ S' = S ∧ ∃ l, IsOth S x y l ∧ most - 1 ≤ l.length) ∨ (code = 0 ∧ mayC x y = true ∧ Nw S S' x y)) := by
  refine (cz_change W _ N most last turns S i L x y h.cz hx hy (h.lt h0) hm hi).mono ?_
  rintro e w' ⟨code, last', turns', S', rfl, q1, q2, q3⟩
  have k := h.turned h0 q2 q1
  exact ⟨code, last', turns', S', rfl, k.1, k.2, q3⟩
theorem nx_see (h : Nx b0 W N most last turns S i L v l xb A) (h0 : b0 ≤ W.heap.size) (x y : Int) (hx : I64 x) (hy : I64 y) (hi : i ≤ 3600000000000) :
    Calls Try.prog 9 #[.pointer (some ⟨N, 0, none⟩), .agg #[.int .i64 x, .int .i64 y]] W fun e w' => e = .returned (.tuple #[]) ∧ Nx b0 w' N most last turns (seeS S last x y) (i + 1) (⟨x, y⟩ :: L) v l xb A ∧ Below b0 W w' := by
  refine (cz_see W _ N most last turns S i L x y h.cz hx hy (h.lt h0) hi).mono ?_
  rintro e w' ⟨rfl, q1, q2⟩
  exact ⟨rfl, h.turned h0 q2 q1⟩
theorem nx_drop (h : Nx b0 W N most last turns S i L v l xb A) (h0 : b0 ≤ W.heap.size) (x y : Int) (hx : I64 x) (hy : I64 y) :
    Calls Try.prog 11 #[.pointer (some ⟨N, 0, none⟩), .agg #[.int .i64 x, .int .i64 y]] W fun e w' => e = .returned (.tuple #[]) ∧ Nx b0 w' N most last turns (upS S x y none) (i + 1) (⟨x, y⟩ :: L) v l xb A ∧ Below b0 W w' := by
  refine (cz_drop W _ N most last turns S i L x y h.cz hx hy).mono ?_
  rintro e w' ⟨rfl, q1, q2⟩
  exact ⟨rfl, h.turned h0 q2 q1⟩
theorem Nx.put {g n cap : Nat} (h : Nx b0 W N most last turns S i L (.slice (some ⟨g, 0, none⟩) n cap) l xb A) {p : Nat} {e e' : We} {j : Nat} {u : Value} (hi : l[p]? = some e) (hj : j < 4) (hx : We.cs e' = (We.cs e).set j u) : Nx b0 (W.setCell ⟨g, p * 4 + j, none⟩ u) N most last turns S i L (.slice (some ⟨g, 0, none⟩) n cap) (l.set p e') xb A :=
  ⟨h.cz.turned (Mut.set (S := fun b => b = g) (Mut.refl _ _) (.inl rfl) u) (fun b q => .inr (.inl (by rw [q]; rfl))), h.row.setAt We.len hi hj hx, h.own.aside _ (fun q => h.ne (by rw [q]; rfl)), h.lo, h.ne⟩
theorem Nx.putB {g n cap : Nat} (h : Nx b0 W N most last turns S i L (.slice (some ⟨g, 0, none⟩) n cap) l xb A) {o : Nat} (u : Value) : Below b0 W (W.setCell ⟨g, o, none⟩ u) :=
  (Mut.set (S := fun b => b = g) (Mut.refl _ _) (.inl rfl) u).to_below (by have := h.row.lt g rfl; omega) (fun k q => by rw [q]; exact (h.row.lt g rfl).1)
theorem Nx.app (h : Nx b0 W N most last turns S i L v l xb A) {v' : Value} {w' : World} {x : We} (h1 : RowW w' b0 v' (l ++ [x])) (h2 : v'.ownBlock = v.ownBlock ∨ v'.ownBlock = some W.heap.size) (h3 : Mut (fun b => v.ownBlock = some b) W w') : Nx b0 w' N most last turns S i L v' (l ++ [x]) xb A := by
  refine ⟨?_, h1, h.own.mut h3 h.ne, h.lo, fun q => ?_⟩
  · have k : Cz (fun b => (b < b0 ∨ v'.ownBlock = some b ∨ b = xb) ∨ v.ownBlock = some b) W N most last turns S i L := h.cz.fresh (fun b q => by
      rcases q with (q | q | q) | q
      · exact .inl (.inl q)
      · rcases h2 with s | s
        · exact .inl (.inr (.inl (s.symm.trans q)))
        · rw [s] at q
          injection q with q
          exact .inr (by omega)
      · exact .inl (.inr (.inr q))
      · exact .inl (.inr (.inl q)))
    exact (k.turned h3 (fun b q => .inr q)).fresh (fun b q => .inl (.inl q))
  · rcases h2 with s | s
    · exact h.ne (s.symm.trans q)
    · rw [s] at q
      injection q with q
      have := h.own.lt
      omega
end
set_option maxRecDepth 100000 in
set_option maxHeartbeats 4000000 in
theorem newer_bad (w : World) (q : Option Addr) (n cap : Nat) (most : Int) (hm : most < 2 ∨ 1099511627776 < most) : Calls Try.prog 3 #[.slice q n cap, .int .i64 most] w fun e w' => e = .returned (.bool true) ∧ Below w.heap.size w w' := by
  have mixed : Try.prog.follows .mixedOrders = true := by kernel_rfl
  have H1 : Hid (∀ W, Calls Try.prog 6 #[.int .i64 most] W fun e w' => e = .returned (.tuple #[.pointer none, .int .i64 1]) ∧ Below W.heap.size W w') := (show _ from fun W => knew_bad W most hm)
  have H2 : Hid (∀ W, Calls Try.prog 5 #[] W fun e w' => e = .returned (.bool true) ∧ Below W.heap.size W w') := lknown_any
  rcases hm with hm | hm
  · go_enter Try.func3, Try.ntmps3
    go_wp2_with (first
      | (go_at_call 6; refine (H1.out _).mono ?_; rintro e wa ⟨rfl, hb⟩; have hBa : Below w.heap.size w wa := bup (by with_reducible (repeat' first | assumption | exact Below.refl _ _ | refine Below.drew ?_ | refine bdrewN ?_ _ | refine Below.setCell ?_ (by first | exact Nat.le_refl _ | (simp; done) | (simp; omega) | omega) _ | refine Below.alloc ?_ (by first | exact Nat.le_refl _ | (simp; done) | (simp; omega) | omega) _)) hb; clear hb)
      | (go_at_call 5; refine (H2.out _).mono ?_; rintro e wb ⟨rfl, hb⟩; have hBb : Below w.heap.size w wb := bup (by with_reducible (repeat' first | assumption | exact Below.refl _ _ | refine Below.drew ?_ | refine bdrewN ?_ _ | refine Below.setCell ?_ (by first | exact Nat.le_refl _ | (simp; done) | (simp; omega) | omega) _ | refine Below.alloc ?_ (by first | exact Nat.le_refl _ | (simp; done) | (simp; omega) | omega) _)) hb; clear hb))
    go_ret
    exact ⟨rfl, by with_reducible (repeat' first | assumption | exact Below.refl _ _ | refine Below.drew ?_ | refine bdrewN ?_ _ | refine Below.setCell ?_ (by first | exact Nat.le_refl _ | (simp; done) | (simp; omega) | omega) _ | refine Below.alloc ?_ (by first | exact Nat.le_refl _ | (simp; done) | (simp; omega) | omega) _)⟩
  · have hm2 : ¬ most < 2 := by omega
    go_enter Try.func3, Try.ntmps3
    go_wp2_with (first
      | (go_at_call 6; refine (H1.out _).mono ?_; rintro e wa ⟨rfl, hb⟩; have hBa : Below w.heap.size w wa := bup (by with_reducible (repeat' first | assumption | exact Below.refl _ _ | refine Below.drew ?_ | refine bdrewN ?_ _ | refine Below.setCell ?_ (by first | exact Nat.le_refl _ | (simp; done) | (simp; omega) | omega) _ | refine Below.alloc ?_ (by first | exact Nat.le_refl _ | (simp; done) | (simp; omega) | omega) _)) hb; clear hb)
      | (go_at_call 5; refine (H2.out _).mono ?_; rintro e wb ⟨rfl, hb⟩; have hBb : Below w.heap.size w wb := bup (by with_reducible (repeat' first | assumption | exact Below.refl _ _ | refine Below.drew ?_ | refine bdrewN ?_ _ | refine Below.setCell ?_ (by first | exact Nat.le_refl _ | (simp; done) | (simp; omega) | omega) _ | refine Below.alloc ?_ (by first | exact Nat.le_refl _ | (simp; done) | (simp; omega) | omega) _)) hb; clear hb))
    go_ret
    exact ⟨rfl, by with_reducible (repeat' first | assumption | exact Below.refl _ _ | refine Below.drew ?_ | refine bdrewN ?_ _ | refine Below.setCell ?_ (by first | exact Nat.le_refl _ | (simp; done) | (simp; omega) | omega) _ | refine Below.alloc ?_ (by first | exact Nat.le_refl _ | (simp; done) | (simp; omega) | omega) _)⟩
end Go.Proofs.Ytmajbophgdimlaa
