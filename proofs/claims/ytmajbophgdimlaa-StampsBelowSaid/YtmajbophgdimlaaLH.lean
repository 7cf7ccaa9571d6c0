/- StampsBelow's walk where there is a clock. -/
import Derived.Test.YtmajbophgdimlaaLG
namespace Go.Proofs.Ytmajbophgdimlaa
open Go.RowKit
set_option linter.all false
set_option maxRecDepth 100000 in
set_option maxHeartbeats 4000000 in
theorem below_good (w : World) (p : Option Addr) (l : List Op5) (n cap : Nat) (most : Int) (hn : n = l.length) (hp0 : 0 < l.length → ∃ b o, p = some ⟨b, o, none⟩ ∧ b < w.heap.size ∧ ∀ i x, l[i]? = some x → ∀ j, j < 5 → w.cell? ⟨b, o + i * 5 + j, none⟩ = (Op5.cells x)[j]?) (hcap : n ≤ cap) (hok : ∀ x ∈ l, x.ok) (hz : n ≤ 3518437208883) (hm1 : 2 ≤ most) (hm2 : most ≤ 1099511627776) : Calls Try.prog 4 #[.slice p n cap, .int .i64 most] w fun e w' => e = .returned (.bool true) ∧ Below w.heap.size w w' := by
  have mixed : Try.prog.follows .mixedOrders = true := by kernel_rfl
  have hEach := CV.each hp0
  rw [← hn] at hEach
  have HE : Hid (∀ i, i < n → ∃ (ab ao : Nat) (x : Op5), p = some ⟨ab, ao, none⟩ ∧ ab < w.heap.size ∧ l[i]? = some x ∧ ∀ j u, (Op5.cells x)[j]? = some u → w.cell? ⟨ab, ao + i * 5 + j, none⟩ = some u) := hEach
  have HOk : Hid (∀ x ∈ l, x.ok) := hok
  have HN : Hid (n = l.length) := hn
  have H1 : Hid (∀ W, Calls Try.prog 6 #[.int .i64 most] W fun e w' => ∃ N, e = .returned (.tuple #[.pointer (some ⟨N, 0, none⟩), .int .i64 0]) ∧ Cz (fun b => b < W.heap.size) w' N most 0 0 (fun _ _ => none) 0 [] ∧ Below W.heap.size W w') := (show _ from fun W => cz_new W most hm1 hm2)
  have H2 : Hid (∀ W, Calls Try.prog 5 #[] W fun e w' => e = .returned (.bool true) ∧ Below W.heap.size W w') := lknown_any
  have H3 : Hid (∀ W N last turns S i L x y, Cz (fun b => b < w.heap.size) W N most last turns S i L → w.heap.size ≤ W.heap.size → I64 x → I64 y → i ≤ 3600000000000 → Calls Try.prog 10 #[.pointer (some ⟨N, 0, none⟩), .agg #[.int .i64 x, .int .i64 y]] W fun e w' => ∃ (code last' turns' : Int) (S' : St), e = .returned (.int .i64 code) ∧ Cz (fun b => b < w.heap.size) w' N most last' turns' S' (i + 1) (⟨x, y⟩ :: L) ∧ Mut (fun b => ¬ b < w.heap.size) W w') := (show _ from fun W N last turns S i L x y h hz hx hy hi => (cz_change W (fun b => b < w.heap.size) N most last turns S i L x y h hx hy (fun b q => Nat.lt_of_lt_of_le q hz) ⟨hm1, hm2⟩ hi).mono (by
    rintro e w' ⟨code, last', turns', S', q1, q2, q3, _⟩
    exact ⟨code, last', turns', S', q1, q2, q3⟩))
  have H4 : Hid (∀ W N last turns S i L x y, Cz (fun b => b < w.heap.size) W N most last turns S i L → w.heap.size ≤ W.heap.size → I64 x → I64 y → i ≤ 3600000000000 → Calls Try.prog 9 #[.pointer (some ⟨N, 0, none⟩), .agg #[.int .i64 x, .int .i64 y]] W fun e w' => e = .returned (.tuple #[]) ∧ Cz (fun b => b < w.heap.size) w' N most last turns (seeS S last x y) (i + 1) (⟨x, y⟩ :: L) ∧ Mut (fun b => ¬ b < w.heap.size) W w') := (show _ from fun W N last turns S i L x y h hz hx hy hi => cz_see W (fun b => b < w.heap.size) N most last turns S i L x y h hx hy (fun b q => Nat.lt_of_lt_of_le q hz) hi)
  have H5 : Hid (∀ W N last turns S i L x y, Cz (fun b => b < w.heap.size) W N most last turns S i L → w.heap.size ≤ W.heap.size → I64 x → I64 y → i ≤ 3600000000000 → Calls Try.prog 11 #[.pointer (some ⟨N, 0, none⟩), .agg #[.int .i64 x, .int .i64 y]] W fun e w' => e = .returned (.tuple #[]) ∧ Cz (fun b => b < w.heap.size) w' N most last turns (upS S x y none) (i + 1) (⟨x, y⟩ :: L) ∧ Mut (fun b => ¬ b < w.heap.size) W w') := (show _ from fun W N last turns S i L x y h hz hx hy hi => cz_drop W (fun b => b < w.heap.size) N most last turns S i L x y h hx hy)
  clear hEach hp0 hok hn
  go_enter Try.func4, Try.ntmps4
  go_wp2_with (first
    | (go_at_call 6; refine (H1.out _).mono ?_; rintro e wa ⟨N, rfl, q1, hb⟩; have hBa : Below w.heap.size w wa := bup (by with_reducible (repeat' first | assumption | exact Below.refl _ _ | refine Below.drew ?_ | refine bdrewN ?_ _ | refine Below.setCell ?_ (by first | exact Nat.le_refl _ | (simp; done) | (simp; omega) | omega) _ | refine Below.alloc ?_ (by first | exact Nat.le_refl _ | (simp; done) | (simp; omega) | omega) _)) hb; have HCa : Hid (Cz (fun b => b < w.heap.size) wa N most 0 0 (fun _ _ => none) 0 []) := q1; clear q1 hb)
    | (go_at_call 5; refine (H2.out _).mono ?_; rintro e wb ⟨rfl, hb⟩; have hBb : Below w.heap.size w wb := bup (by with_reducible (repeat' first | assumption | exact Below.refl _ _ | refine Below.drew ?_ | refine bdrewN ?_ _ | refine Below.setCell ?_ (by first | exact Nat.le_refl _ | (simp; done) | (simp; omega) | omega) _ | refine Below.alloc ?_ (by first | exact Nat.le_refl _ | (simp; done) | (simp; omega) | omega) _)) hb; have HCb : Hid (Cz (fun b => b < w.heap.size) wb N most 0 0 (fun _ _ => none) 0 []) := (show Cz _ _ _ _ _ _ _ _ _ from HCa.out.keep hb); clear hb))
  go_loopw [7] (fun u w' => ∃ i : Nat, u = .int .i64 i ∧ i ≤ n ∧ (∃ last turns S L, Hid (Cz (fun b => b < w.heap.size) w' N most last turns S i L)) ∧ Below w.heap.size w w') (fun u _ => n - (intOf u).toNat)
  case atStart => exact ⟨0, rfl, by omega, ⟨0, 0, _, _, HCb⟩, hBb⟩
  case round =>
    clear HCa HCb hBa hBb H1 H2
    obtain ⟨i, rfl, hi, ⟨last, turns, S, L, HC⟩, hB⟩ := hrel
    by_cases hin : i < n
    · have hin' : (i : Int) < n := by omega
      obtain ⟨ab, ao, op, rfl, hab, hx, hcl⟩ := HE.out i hin
      obtain ⟨ok0, ok1, ok2, ok3, ok4⟩ := HOk.out op (List.mem_of_getElem? hx)
      have y0 : wr.cell? ⟨ab, ao + i * 5, none⟩ = some (.int .i64 op.k) := (hB.cell (p := ⟨ab, ao + i * 5, none⟩) hab).trans (hcl 0 _ rfl)
      have y1 : wr.cell? ⟨ab, ao + i * 5 + 1, none⟩ = some (.int .i64 op.r) := (hB.cell (p := ⟨ab, ao + i * 5 + 1, none⟩) hab).trans (hcl 1 _ rfl)
      have y2 : wr.cell? ⟨ab, ao + i * 5 + 2, none⟩ = some (.int .i64 op.c) := (hB.cell (p := ⟨ab, ao + i * 5 + 2, none⟩) hab).trans (hcl 2 _ rfl)
      have z := hB.size
      have labr : ab < wr.heap.size := by omega
      have hni : n < 9223372036854775807 := by omega
      clear hx hcl
      by_cases hk0 : op.k = 0
      · go_wp2_with (first
          | (go_at_call 10; refine (H3.out _ _ _ _ _ _ _ _ _ (HC.out.keep (by with_reducible (repeat' first | assumption | exact Below.refl _ _ | refine Below.drew ?_ | refine bdrewN ?_ _ | refine Below.setCell ?_ (by first | exact Nat.le_refl _ | (simp; done) | (simp; omega) | omega) _ | refine Below.alloc ?_ (by first | exact Nat.le_refl _ | (simp; done) | (simp; omega) | omega) _))) (by omega) ok1 ok2 (by omega)).mono ?_; rintro e wc ⟨code, la, tu, S2, rfl, q1, q2⟩; have HC2 : Hid (Cz (fun b => b < w.heap.size) wc N most la tu S2 (i + 1) (⟨op.r, op.c⟩ :: L)) := q1; have hB2 : Below w.heap.size w wc := (show Below w.heap.size w _ from by with_reducible (repeat' first | assumption | exact Below.refl _ _ | refine Below.drew ?_ | refine bdrewN ?_ _ | refine Below.setCell ?_ (by first | exact Nat.le_refl _ | (simp; done) | (simp; omega) | omega) _ | refine Below.alloc ?_ (by first | exact Nat.le_refl _ | (simp; done) | (simp; omega) | omega) _)).trans (q2.to_below (by omega) (fun k q => by omega)); have hbd := (show (0 ≤ la ∧ la < most) ∧ 0 ≤ tu ∧ tu ≤ (i : Int) + 1 from ⟨⟨q1.low.lo, q1.low.hi⟩, q1.turn.1, by have := q1.turn.2; omega⟩); obtain ⟨⟨b1, b2⟩, b3, b4⟩ := hbd; have z2 := hB2.size; clear q1 q2)
          | (go_at_call 13; refine (cz_last (HC2.out.keep (by with_reducible (repeat' first | assumption | exact Below.refl _ _ | refine Below.drew ?_ | refine bdrewN ?_ _ | refine Below.setCell ?_ (by first | exact Nat.le_refl _ | (simp; done) | (simp; omega) | omega) _ | refine Below.alloc ?_ (by first | exact Nat.le_refl _ | (simp; done) | (simp; omega) | omega) _)))).mono ?_; rintro e wd ⟨rfl, hb⟩; have hBd : Below w.heap.size w wd := bup (by with_reducible (repeat' first | assumption | exact Below.refl _ _ | refine Below.drew ?_ | refine bdrewN ?_ _ | refine Below.setCell ?_ (by first | exact Nat.le_refl _ | (simp; done) | (simp; omega) | omega) _ | refine Below.alloc ?_ (by first | exact Nat.le_refl _ | (simp; done) | (simp; omega) | omega) _)) hb; have hBd2 : Below wc.heap.size wc wd := bup (by with_reducible (repeat' first | assumption | exact Below.refl _ _ | refine Below.drew ?_ | refine bdrewN ?_ _ | refine Below.setCell ?_ (by first | exact Nat.le_refl _ | (simp; done) | (simp; omega) | omega) _ | refine Below.alloc ?_ (by first | exact Nat.le_refl _ | (simp; done) | (simp; omega) | omega) _)) hb; have zd := hBd.size; have zd2 := hBd2.size; clear hb)
          | (go_at_call 14; refine (cz_turns (HC2.out.keep (by with_reducible (repeat' first | assumption | exact Below.refl _ _ | refine Below.drew ?_ | refine bdrewN ?_ _ | refine Below.setCell ?_ (by first | exact Nat.le_refl _ | (simp; done) | (simp; omega) | omega) _ | refine Below.alloc ?_ (by first | exact Nat.le_refl _ | (simp; done) | (simp; omega) | omega) _)))).mono ?_; rintro e wd ⟨rfl, hb⟩; have hBd : Below w.heap.size w wd := bup (by with_reducible (repeat' first | assumption | exact Below.refl _ _ | refine Below.drew ?_ | refine bdrewN ?_ _ | refine Below.setCell ?_ (by first | exact Nat.le_refl _ | (simp; done) | (simp; omega) | omega) _ | refine Below.alloc ?_ (by first | exact Nat.le_refl _ | (simp; done) | (simp; omega) | omega) _)) hb; have hBd2 : Below wc.heap.size wc wd := bup (by with_reducible (repeat' first | assumption | exact Below.refl _ _ | refine Below.drew ?_ | refine bdrewN ?_ _ | refine Below.setCell ?_ (by first | exact Nat.le_refl _ | (simp; done) | (simp; omega) | omega) _ | refine Below.alloc ?_ (by first | exact Nat.le_refl _ | (simp; done) | (simp; omega) | omega) _)) hb; have zd := hBd.size; have zd2 := hBd2.size; clear hb))
        exact ⟨⟨i + 1, by go_num, by omega, ⟨la, tu, S2, _, (show Hid _ from HC2.out.keep (by with_reducible (repeat' first | assumption | exact Below.refl _ _ | refine Below.drew ?_ | refine bdrewN ?_ _ | refine Below.setCell ?_ (by first | exact Nat.le_refl _ | (simp; done) | (simp; omega) | omega) _ | refine Below.alloc ?_ (by first | exact Nat.le_refl _ | (simp; done) | (simp; omega) | omega) _)))⟩, by with_reducible (repeat' first | assumption | exact Below.refl _ _ | refine Below.drew ?_ | refine bdrewN ?_ _ | refine Below.setCell ?_ (by first | exact Nat.le_refl _ | (simp; done) | (simp; omega) | omega) _ | refine Below.alloc ?_ (by first | exact Nat.le_refl _ | (simp; done) | (simp; omega) | omega) _)⟩, by simp [intOf]; omega⟩
      · by_cases hk1 : op.k = 1
        · go_wp2_with (first
            | (go_at_call 9; refine (H4.out _ _ _ _ _ _ _ _ _ (HC.out.keep (by with_reducible (repeat' first | assumption | exact Below.refl _ _ | refine Below.drew ?_ | refine bdrewN ?_ _ | refine Below.setCell ?_ (by first | exact Nat.le_refl _ | (simp; done) | (simp; omega) | omega) _ | refine Below.alloc ?_ (by first | exact Nat.le_refl _ | (simp; done) | (simp; omega) | omega) _))) (by omega) ok1 ok2 (by omega)).mono ?_; rintro e wc ⟨rfl, q1, q2⟩; have HC2 : Hid (Cz (fun b => b < w.heap.size) wc N most last turns (seeS S last op.r op.c) (i + 1) (⟨op.r, op.c⟩ :: L)) := q1; have hB2 : Below w.heap.size w wc := (show Below w.heap.size w _ from by with_reducible (repeat' first | assumption | exact Below.refl _ _ | refine Below.drew ?_ | refine bdrewN ?_ _ | refine Below.setCell ?_ (by first | exact Nat.le_refl _ | (simp; done) | (simp; omega) | omega) _ | refine Below.alloc ?_ (by first | exact Nat.le_refl _ | (simp; done) | (simp; omega) | omega) _)).trans (q2.to_below (by omega) (fun k q => by omega)); have hbd := (show (0 ≤ last ∧ last < most) ∧ 0 ≤ turns ∧ turns ≤ (i : Int) + 1 from ⟨⟨q1.low.lo, q1.low.hi⟩, q1.turn.1, by have := q1.turn.2; omega⟩); obtain ⟨⟨b1, b2⟩, b3, b4⟩ := hbd; have z2 := hB2.size; clear q1 q2)
            | (go_at_call 13; refine (cz_last (HC2.out.keep (by with_reducible (repeat' first | assumption | exact Below.refl _ _ | refine Below.drew ?_ | refine bdrewN ?_ _ | refine Below.setCell ?_ (by first | exact Nat.le_refl _ | (simp; done) | (simp; omega) | omega) _ | refine Below.alloc ?_ (by first | exact Nat.le_refl _ | (simp; done) | (simp; omega) | omega) _)))).mono ?_; rintro e wd ⟨rfl, hb⟩; have hBd : Below w.heap.size w wd := bup (by with_reducible (repeat' first | assumption | exact Below.refl _ _ | refine Below.drew ?_ | refine bdrewN ?_ _ | refine Below.setCell ?_ (by first | exact Nat.le_refl _ | (simp; done) | (simp; omega) | omega) _ | refine Below.alloc ?_ (by first | exact Nat.le_refl _ | (simp; done) | (simp; omega) | omega) _)) hb; have hBd2 : Below wc.heap.size wc wd := bup (by with_reducible (repeat' first | assumption | exact Below.refl _ _ | refine Below.drew ?_ | refine bdrewN ?_ _ | refine Below.setCell ?_ (by first | exact Nat.le_refl _ | (simp; done) | (simp; omega) | omega) _ | refine Below.alloc ?_ (by first | exact Nat.le_refl _ | (simp; done) | (simp; omega) | omega) _)) hb; have zd := hBd.size; have zd2 := hBd2.size; clear hb)
            | (go_at_call 14; refine (cz_turns (HC2.out.keep (by with_reducible (repeat' first | assumption | exact Below.refl _ _ | refine Below.drew ?_ | refine bdrewN ?_ _ | refine Below.setCell ?_ (by first | exact Nat.le_refl _ | (simp; done) | (simp; omega) | omega) _ | refine Below.alloc ?_ (by first | exact Nat.le_refl _ | (simp; done) | (simp; omega) | omega) _)))).mono ?_; rintro e wd ⟨rfl, hb⟩; have hBd : Below w.heap.size w wd := bup (by with_reducible (repeat' first | assumption | exact Below.refl _ _ | refine Below.drew ?_ | refine bdrewN ?_ _ | refine Below.setCell ?_ (by first | exact Nat.le_refl _ | (simp; done) | (simp; omega) | omega) _ | refine Below.alloc ?_ (by first | exact Nat.le_refl _ | (simp; done) | (simp; omega) | omega) _)) hb; have hBd2 : Below wc.heap.size wc wd := bup (by with_reducible (repeat' first | assumption | exact Below.refl _ _ | refine Below.drew ?_ | refine bdrewN ?_ _ | refine Below.setCell ?_ (by first | exact Nat.le_refl _ | (simp; done) | (simp; omega) | omega) _ | refine Below.alloc ?_ (by first | exact Nat.le_refl _ | (simp; done) | (simp; omega) | omega) _)) hb; have zd := hBd.size; have zd2 := hBd2.size; clear hb))
          exact ⟨⟨i + 1, by go_num, by omega, ⟨last, turns, _, _, (show Hid _ from HC2.out.keep (by with_reducible (repeat' first | assumption | exact Below.refl _ _ | refine Below.drew ?_ | refine bdrewN ?_ _ | refine Below.setCell ?_ (by first | exact Nat.le_refl _ | (simp; done) | (simp; omega) | omega) _ | refine Below.alloc ?_ (by first | exact Nat.le_refl _ | (simp; done) | (simp; omega) | omega) _)))⟩, by with_reducible (repeat' first | assumption | exact Below.refl _ _ | refine Below.drew ?_ | refine bdrewN ?_ _ | refine Below.setCell ?_ (by first | exact Nat.le_refl _ | (simp; done) | (simp; omega) | omega) _ | refine Below.alloc ?_ (by first | exact Nat.le_refl _ | (simp; done) | (simp; omega) | omega) _)⟩, by simp [intOf]; omega⟩
        · by_cases hk2 : op.k = 2
          · go_wp2_with (first
              | (go_at_call 11; refine (H5.out _ _ _ _ _ _ _ _ _ (HC.out.keep (by with_reducible (repeat' first | assumption | exact Below.refl _ _ | refine Below.drew ?_ | refine bdrewN ?_ _ | refine Below.setCell ?_ (by first | exact Nat.le_refl _ | (simp; done) | (simp; omega) | omega) _ | refine Below.alloc ?_ (by first | exact Nat.le_refl _ | (simp; done) | (simp; omega) | omega) _))) (by omega) ok1 ok2 (by omega)).mono ?_; rintro e wc ⟨rfl, q1, q2⟩; have HC2 : Hid (Cz (fun b => b < w.heap.size) wc N most last turns (upS S op.r op.c none) (i + 1) (⟨op.r, op.c⟩ :: L)) := q1; have hB2 : Below w.heap.size w wc := (show Below w.heap.size w _ from by with_reducible (repeat' first | assumption | exact Below.refl _ _ | refine Below.drew ?_ | refine bdrewN ?_ _ | refine Below.setCell ?_ (by first | exact Nat.le_refl _ | (simp; done) | (simp; omega) | omega) _ | refine Below.alloc ?_ (by first | exact Nat.le_refl _ | (simp; done) | (simp; omega) | omega) _)).trans (q2.to_below (by omega) (fun k q => by omega)); have hbd := (show (0 ≤ last ∧ last < most) ∧ 0 ≤ turns ∧ turns ≤ (i : Int) + 1 from ⟨⟨q1.low.lo, q1.low.hi⟩, q1.turn.1, by have := q1.turn.2; omega⟩); obtain ⟨⟨b1, b2⟩, b3, b4⟩ := hbd; have z2 := hB2.size; clear q1 q2)
              | (go_at_call 13; refine (cz_last (HC2.out.keep (by with_reducible (repeat' first | assumption | exact Below.refl _ _ | refine Below.drew ?_ | refine bdrewN ?_ _ | refine Below.setCell ?_ (by first | exact Nat.le_refl _ | (simp; done) | (simp; omega) | omega) _ | refine Below.alloc ?_ (by first | exact Nat.le_refl _ | (simp; done) | (simp; omega) | omega) _)))).mono ?_; rintro e wd ⟨rfl, hb⟩; have hBd : Below w.heap.size w wd := bup (by with_reducible (repeat' first | assumption | exact Below.refl _ _ | refine Below.drew ?_ | refine bdrewN ?_ _ | refine Below.setCell ?_ (by first | exact Nat.le_refl _ | (simp; done) | (simp; omega) | omega) _ | refine Below.alloc ?_ (by first | exact Nat.le_refl _ | (simp; done) | (simp; omega) | omega) _)) hb; have hBd2 : Below wc.heap.size wc wd := bup (by with_reducible (repeat' first | assumption | exact Below.refl _ _ | refine Below.drew ?_ | refine bdrewN ?_ _ | refine Below.setCell ?_ (by first | exact Nat.le_refl _ | (simp; done) | (simp; omega) | omega) _ | refine Below.alloc ?_ (by first | exact Nat.le_refl _ | (simp; done) | (simp; omega) | omega) _)) hb; have zd := hBd.size; have zd2 := hBd2.size; clear hb)
              | (go_at_call 14; refine (cz_turns (HC2.out.keep (by with_reducible (repeat' first | assumption | exact Below.refl _ _ | refine Below.drew ?_ | refine bdrewN ?_ _ | refine Below.setCell ?_ (by first | exact Nat.le_refl _ | (simp; done) | (simp; omega) | omega) _ | refine Below.alloc ?_ (by first | exact Nat.le_refl _ | (simp; done) | (simp; omega) | omega) _)))).mono ?_; rintro e wd ⟨rfl, hb⟩; have hBd : Below w.heap.size w wd := bup (by with_reducible (repeat' first | assumption | exact Below.refl _ _ | refine Below.drew ?_ | refine bdrewN ?_ _ | refine Below.setCell ?_ (by first | exact Nat.le_refl _ | (simp; done) | (simp; omega) | omega) _ | refine Below.alloc ?_ (by first | exact Nat.le_refl _ | (simp; done) | (simp; omega) | omega) _)) hb; have hBd2 : Below wc.heap.size wc wd := bup (by with_reducible (repeat' first | assumption | exact Below.refl _ _ | refine Below.drew ?_ | refine bdrewN ?_ _ | refine Below.setCell ?_ (by first | exact Nat.le_refl _ | (simp; done) | (simp; omega) | omega) _ | refine Below.alloc ?_ (by first | exact Nat.le_refl _ | (simp; done) | (simp; omega) | omega) _)) hb; have zd := hBd.size; have zd2 := hBd2.size; clear hb))
            exact ⟨⟨i + 1, by go_num, by omega, ⟨last, turns, _, _, (show Hid _ from HC2.out.keep (by with_reducible (repeat' first | assumption | exact Below.refl _ _ | refine Below.drew ?_ | refine bdrewN ?_ _ | refine Below.setCell ?_ (by first | exact Nat.le_refl _ | (simp; done) | (simp; omega) | omega) _ | refine Below.alloc ?_ (by first | exact Nat.le_refl _ | (simp; done) | (simp; omega) | omega) _)))⟩, by with_reducible (repeat' first | assumption | exact Below.refl _ _ | refine Below.drew ?_ | refine bdrewN ?_ _ | refine Below.setCell ?_ (by first | exact Nat.le_refl _ | (simp; done) | (simp; omega) | omega) _ | refine Below.alloc ?_ (by first | exact Nat.le_refl _ | (simp; done) | (simp; omega) | omega) _)⟩, by simp [intOf]; omega⟩
          · obtain ⟨wc, hwc⟩ : ∃ wc, wc = wr := ⟨_, rfl⟩
            have HC2 : Hid (Cz (fun b => b < w.heap.size) wc N most last turns S (i + 1) (⟨op.r, op.c⟩ :: L)) := (show Cz _ _ _ _ _ _ _ _ _ from by rw [hwc]; exact HC.out.more ⟨op.r, op.c⟩)
            have hbd := (show (0 ≤ last ∧ last < most) ∧ 0 ≤ turns ∧ turns ≤ (i : Int) + 1 from ⟨⟨HC2.out.low.lo, HC2.out.low.hi⟩, HC2.out.turn.1, by have := HC2.out.turn.2; omega⟩)
            obtain ⟨⟨b1, b2⟩, b3, b4⟩ := hbd
            subst hwc
            go_wp2_with (first
                | (go_at_call 13; refine (cz_last (HC2.out.keep (by with_reducible (repeat' first | assumption | exact Below.refl _ _ | refine Below.drew ?_ | refine bdrewN ?_ _ | refine Below.setCell ?_ (by first | exact Nat.le_refl _ | (simp; done) | (simp; omega) | omega) _ | refine Below.alloc ?_ (by first | exact Nat.le_refl _ | (simp; done) | (simp; omega) | omega) _)))).mono ?_; rintro e wd ⟨rfl, hb⟩; have hBd : Below w.heap.size w wd := bup (by with_reducible (repeat' first | assumption | exact Below.refl _ _ | refine Below.drew ?_ | refine bdrewN ?_ _ | refine Below.setCell ?_ (by first | exact Nat.le_refl _ | (simp; done) | (simp; omega) | omega) _ | refine Below.alloc ?_ (by first | exact Nat.le_refl _ | (simp; done) | (simp; omega) | omega) _)) hb; have hBd2 : Below wc.heap.size wc wd := bup (by with_reducible (repeat' first | assumption | exact Below.refl _ _ | refine Below.drew ?_ | refine bdrewN ?_ _ | refine Below.setCell ?_ (by first | exact Nat.le_refl _ | (simp; done) | (simp; omega) | omega) _ | refine Below.alloc ?_ (by first | exact Nat.le_refl _ | (simp; done) | (simp; omega) | omega) _)) hb; have zd := hBd.size; have zd2 := hBd2.size; clear hb)
                | (go_at_call 14; refine (cz_turns (HC2.out.keep (by with_reducible (repeat' first | assumption | exact Below.refl _ _ | refine Below.drew ?_ | refine bdrewN ?_ _ | refine Below.setCell ?_ (by first | exact Nat.le_refl _ | (simp; done) | (simp; omega) | omega) _ | refine Below.alloc ?_ (by first | exact Nat.le_refl _ | (simp; done) | (simp; omega) | omega) _)))).mono ?_; rintro e wd ⟨rfl, hb⟩; have hBd : Below w.heap.size w wd := bup (by with_reducible (repeat' first | assumption | exact Below.refl _ _ | refine Below.drew ?_ | refine bdrewN ?_ _ | refine Below.setCell ?_ (by first | exact Nat.le_refl _ | (simp; done) | (simp; omega) | omega) _ | refine Below.alloc ?_ (by first | exact Nat.le_refl _ | (simp; done) | (simp; omega) | omega) _)) hb; have hBd2 : Below wc.heap.size wc wd := bup (by with_reducible (repeat' first | assumption | exact Below.refl _ _ | refine Below.drew ?_ | refine bdrewN ?_ _ | refine Below.setCell ?_ (by first | exact Nat.le_refl _ | (simp; done) | (simp; omega) | omega) _ | refine Below.alloc ?_ (by first | exact Nat.le_refl _ | (simp; done) | (simp; omega) | omega) _)) hb; have zd := hBd.size; have zd2 := hBd2.size; clear hb))
            exact ⟨⟨i + 1, by go_num, by omega, ⟨last, turns, _, _, (show Hid _ from HC2.out.keep (by with_reducible (repeat' first | assumption | exact Below.refl _ _ | refine Below.drew ?_ | refine bdrewN ?_ _ | refine Below.setCell ?_ (by first | exact Nat.le_refl _ | (simp; done) | (simp; omega) | omega) _ | refine Below.alloc ?_ (by first | exact Nat.le_refl _ | (simp; done) | (simp; omega) | omega) _)))⟩, by with_reducible (repeat' first | assumption | exact Below.refl _ _ | refine Below.drew ?_ | refine bdrewN ?_ _ | refine Below.setCell ?_ (by first | exact Nat.le_refl _ | (simp; done) | (simp; omega) | omega) _ | refine Below.alloc ?_ (by first | exact Nat.le_refl _ | (simp; done) | (simp; omega) | omega) _)⟩, by simp [intOf]; omega⟩
    · have hin' : ¬ ((i : Int) < n) := by omega
      obtain ⟨w2, hw2⟩ : ∃ w2, w2 = wr := ⟨_, rfl⟩
      have HC2 : Hid (Cz (fun b => b < w.heap.size) w2 N most last turns S i L) := (by rw [hw2]; exact HC)
      have hB2 : Below w.heap.size w w2 := (by rw [hw2]; exact hB)
      have hb0 : Below w2.heap.size w2 wr := (by rw [hw2]; exact Below.refl _ _)
      clear hw2 HC hB
      have HLo : Hid (Low most last S) := HC2.out.low
      have z2 := hB2.size
      go_wp2
      go_loopw [8] (fun u w' => ∃ j : Nat, u = .int .i64 j ∧ j ≤ n ∧ Below w2.heap.size w2 w') (fun u _ => n - (intOf u).toNat)
      case atStart => exact ⟨0, rfl, by omega, hb0⟩
      case round =>
        clear hb0
        obtain ⟨j, rfl, hj, hB3⟩ := hrel
        have z3 := hB3.size
        by_cases hjn : j < n
        · have hjn' : (j : Int) < n := by omega
          obtain ⟨ab, ao, op, rfl, hab, hx, hcl⟩ := HE.out j hjn
          obtain ⟨ok0, ok1, ok2, ok3, ok4⟩ := HOk.out op (List.mem_of_getElem? hx)
          have hB30 := hB2.trans (hB3.mono z2)
          have y1 : wr.cell? ⟨ab, ao + j * 5 + 1, none⟩ = some (.int .i64 op.r) := (hB30.cell (p := ⟨ab, ao + j * 5 + 1, none⟩) hab).trans (hcl 1 _ rfl)
          have y2 : wr.cell? ⟨ab, ao + j * 5 + 2, none⟩ = some (.int .i64 op.c) := (hB30.cell (p := ⟨ab, ao + j * 5 + 2, none⟩) hab).trans (hcl 2 _ rfl)
          have labr : ab < wr.heap.size := by omega
          have hni : n < 9223372036854775807 := by omega
          have HX : Hid _ := hx
          have HY1 : Hid (w.cell? ⟨ab, ao + j * 5 + 1, none⟩ = some (.int .i64 op.r)) := hcl 1 _ rfl
          have HY2 : Hid (w.cell? ⟨ab, ao + j * 5 + 2, none⟩ = some (.int .i64 op.c)) := hcl 2 _ rfl
          obtain ⟨b1, b2, b3, b4⟩ := HLo.out.bd op.r op.c
          clear hx hcl
          go_wp2_with (go_at_call 15; refine (cz_get (HC2.out.keep (by with_reducible (repeat' first | assumption | exact Below.refl _ _ | refine Below.drew ?_ | refine bdrewN ?_ _ | refine Below.setCell ?_ (by first | exact Nat.le_refl _ | (simp; done) | (simp; omega) | omega) _ | refine Below.alloc ?_ (by first | exact Nat.le_refl _ | (simp; done) | (simp; omega) | omega) _))) op.r op.c ok1 ok2).mono ?_; rintro e wc ⟨rfl, hb⟩; have hBc : Below w2.heap.size w2 wc := bup (by with_reducible (repeat' first | assumption | exact Below.refl _ _ | refine Below.drew ?_ | refine bdrewN ?_ _ | refine Below.setCell ?_ (by first | exact Nat.le_refl _ | (simp; done) | (simp; omega) | omega) _ | refine Below.alloc ?_ (by first | exact Nat.le_refl _ | (simp; done) | (simp; omega) | omega) _)) hb; have zc := hBc.size; clear hb)
          obtain ⟨ca, hca⟩ : ∃ ca, ca = chg S op.r op.c := ⟨_, rfl⟩
          obtain ⟨sa, hsa⟩ : ∃ sa, sa = sen S op.r op.c := ⟨_, rfl⟩
          rw [← hca] at b1 b2
          rw [← hsa] at b3 b4
          rw [← hca, ← hsa]
          have HCA : Hid (ca = chg S op.r op.c) := hca
          clear hca hsa
          obtain ⟨W5, hW5⟩ : ∃ W5 : World, W5 = wc.alloc (.cells #[.int .i64 ca, .int .i64 sa] 43) := ⟨_, rfl⟩
          obtain ⟨sb, hsb⟩ : ∃ sb, sb = wc.heap.size := ⟨_, rfl⟩
          have hB5 : Below w2.heap.size w2 W5 := (by rw [hW5]; with_reducible (repeat' first | assumption | exact Below.refl _ _ | refine Below.drew ?_ | refine bdrewN ?_ _ | refine Below.setCell ?_ (by first | exact Nat.le_refl _ | (simp; done) | (simp; omega) | omega) _ | refine Below.alloc ?_ (by first | exact Nat.le_refl _ | (simp; done) | (simp; omega) | omega) _))
          have oS : Own W5 sb #[.int .i64 ca, .int .i64 sa] := (by rw [hW5, hsb]; with_reducible (repeat' first | assumption | refine Own.drew ?_ | refine Own.drewN ?_ _ | (refine Own.at ?_; first | rfl | (simp; done)) | refine Own.past ?_ _))
          have s0 : W5.cell? ⟨sb, 0, none⟩ = some (.int .i64 ca) := oS.cell 0
          have s1 : W5.cell? ⟨sb, 1, none⟩ = some (.int .i64 sa) := oS.cell 1
          have lS := oS.lt
          have z5 := hB5.size
          have hsb2 : w2.heap.size ≤ sb := by omega
          have d1 : decide (ca < 0) = false := decide_eq_false (by omega)
          have d2 : decide (sa < 0) = false := decide_eq_false (by omega)
          have d3 : decide (last < ca) = false := decide_eq_false (by omega)
          have d4 : decide (last < sa) = false := decide_eq_false (by omega)
          rw [← hW5, ← hsb]
          clear hW5 hsb hBc zc hB3 z3 y1 y2
          go_region_held3 (fun w' => w'.cell? ⟨sb, 0, none⟩ = some (.int .i64 ca) ∧ w'.cell? ⟨sb, 1, none⟩ = some (.int .i64 sa)) ((repeat' apply And.intro) <;> (first | (go_keep; done) | (go_simp; done))) ((go_at_call 13; refine (cz_last (HC2.out.keep (by with_reducible (repeat' first | assumption | exact Below.refl _ _ | refine Below.drew ?_ | refine bdrewN ?_ _ | refine Below.setCell ?_ (by first | exact Nat.le_refl _ | (simp; done) | (simp; omega) | omega) _ | refine Below.alloc ?_ (by first | exact Nat.le_refl _ | (simp; done) | (simp; omega) | omega) _)))).mono ?_; rintro e wd ⟨rfl, hb⟩; have hBd : Below w2.heap.size w2 wd := bup (by with_reducible (repeat' first | assumption | exact Below.refl _ _ | refine Below.drew ?_ | refine bdrewN ?_ _ | refine Below.setCell ?_ (by first | exact Nat.le_refl _ | (simp; done) | (simp; omega) | omega) _ | refine Below.alloc ?_ (by first | exact Nat.le_refl _ | (simp; done) | (simp; omega) | omega) _)) hb; have oSd : Own wd sb #[.int .i64 ca, .int .i64 sa] := Own.keep (by with_reducible (repeat' first | assumption | refine Own.drew ?_ | refine Own.drewN ?_ _ | (refine Own.at ?_; first | rfl | (simp; done)) | refine Own.past ?_ _)) hb; have zd := hBd.size; have s0d : wd.cell? ⟨sb, 0, none⟩ = some (.int .i64 ca) := oSd.cell 0; have s1d : wd.cell? ⟨sb, 1, none⟩ = some (.int .i64 sa) := oSd.cell 1; have lSd := oSd.lt; clear hb))
          go_wp2
          go_loopw [11] (fun u w' => ∃ k : Nat, u = .int .i64 k ∧ k ≤ j ∧ Below w2.heap.size w2 w' ∧ Hid (Own w' sb #[.int .i64 ca, .int .i64 sa])) (fun u _ => j - (intOf u).toNat)
          case atStart => exact ⟨0, rfl, by omega, by with_reducible (repeat' first | assumption | exact Below.refl _ _ | refine Below.drew ?_ | refine bdrewN ?_ _ | refine Below.setCell ?_ (by first | exact Nat.le_refl _ | (simp; done) | (simp; omega) | omega) _ | refine Below.alloc ?_ (by first | exact Nat.le_refl _ | (simp; done) | (simp; omega) | omega) _), (show Own _ _ _ from by with_reducible (repeat' first | assumption | refine Own.drew ?_ | refine Own.drewN ?_ _ | (refine Own.at ?_; first | rfl | (simp; done)) | refine Own.past ?_ _))⟩
          case round =>
            clear s0 s1 oS lS z5 hB5 d1 d2 d3 d4 hBd oSd zd s0d s1d lSd
            obtain ⟨k, rfl, hk, hB6, HS6⟩ := hrel
            have z6 := hB6.size
            by_cases hkj : k < j
            · have hkj' : (k : Int) < j := by omega
              obtain ⟨ab', ao', op', e', hab', hx', hcl'⟩ := HE.out k (by omega)
              simp only [Option.some.injEq, Addr.mk.injEq] at e'
              obtain ⟨rfl, rfl, _⟩ := e'
              obtain ⟨_, q1, q2, _, _⟩ := HOk.out op' (List.mem_of_getElem? hx')
              have hB60 := hB2.trans (hB6.mono z2)
              have y1 : wr.cell? ⟨ab, ao + k * 5 + 1, none⟩ = some (.int .i64 op'.r) := (hB60.cell (p := ⟨ab, ao + k * 5 + 1, none⟩) hab).trans (hcl' 1 _ rfl)
              have y2 : wr.cell? ⟨ab, ao + k * 5 + 2, none⟩ = some (.int .i64 op'.c) := (hB60.cell (p := ⟨ab, ao + k * 5 + 2, none⟩) hab).trans (hcl' 2 _ rfl)
              have labr : ab < wr.heap.size := by omega
              have hkn : (k : Int) < n := by omega
              have HY3 : Hid (w.cell? ⟨ab, ao + k * 5 + 1, none⟩ = some (.int .i64 op'.r)) := hcl' 1 _ rfl
              have HY4 : Hid (w.cell? ⟨ab, ao + k * 5 + 2, none⟩ = some (.int .i64 op'.c)) := hcl' 2 _ rfl
              clear hx' hcl' hab'
              go_wp2_with (go_at_call 15; refine (cz_get (HC2.out.keep (by with_reducible (repeat' first | assumption | exact Below.refl _ _ | refine Below.drew ?_ | refine bdrewN ?_ _ | refine Below.setCell ?_ (by first | exact Nat.le_refl _ | (simp; done) | (simp; omega) | omega) _ | refine Below.alloc ?_ (by first | exact Nat.le_refl _ | (simp; done) | (simp; omega) | omega) _))) op'.r op'.c q1 q2).mono ?_; rintro e wc ⟨rfl, hb⟩; have hBc : Below w2.heap.size w2 wc := bup (by with_reducible (repeat' first | assumption | exact Below.refl _ _ | refine Below.drew ?_ | refine bdrewN ?_ _ | refine Below.setCell ?_ (by first | exact Nat.le_refl _ | (simp; done) | (simp; omega) | omega) _ | refine Below.alloc ?_ (by first | exact Nat.le_refl _ | (simp; done) | (simp; omega) | omega) _)) hb; have oSc : Own wc sb #[.int .i64 ca, .int .i64 sa] := Own.keep HS6.out (bup (by with_reducible (repeat' first | assumption | exact Below.refl _ _ | refine Below.drew ?_ | refine bdrewN ?_ _ | refine Below.setCell ?_ (by first | exact Nat.le_refl _ | (simp; done) | (simp; omega) | omega) _ | refine Below.alloc ?_ (by first | exact Nat.le_refl _ | (simp; done) | (simp; omega) | omega) _)) hb); have zc := hBc.size; clear hb)
              obtain ⟨cb, hcb⟩ : ∃ cb, cb = chg S op'.r op'.c := ⟨_, rfl⟩
              obtain ⟨sb', hsb'⟩ : ∃ sb', sb' = sen S op'.r op'.c := ⟨_, rfl⟩
              rw [← hcb, ← hsb']
              have HCB : Hid (cb = chg S op'.r op'.c) := hcb
              clear hcb hsb'
              obtain ⟨W8, hW8⟩ : ∃ W8 : World, W8 = wc.alloc (.cells #[.int .i64 cb, .int .i64 sb'] 43) := ⟨_, rfl⟩
              obtain ⟨tb, htb⟩ : ∃ tb, tb = wc.heap.size := ⟨_, rfl⟩
              have hB8 : Below w2.heap.size w2 W8 := (by rw [hW8]; with_reducible (repeat' first | assumption | exact Below.refl _ _ | refine Below.drew ?_ | refine bdrewN ?_ _ | refine Below.setCell ?_ (by first | exact Nat.le_refl _ | (simp; done) | (simp; omega) | omega) _ | refine Below.alloc ?_ (by first | exact Nat.le_refl _ | (simp; done) | (simp; omega) | omega) _))
              have oT : Own W8 tb #[.int .i64 cb, .int .i64 sb'] := (by rw [hW8, htb]; with_reducible (repeat' first | assumption | refine Own.drew ?_ | refine Own.drewN ?_ _ | (refine Own.at ?_; first | rfl | (simp; done)) | refine Own.past ?_ _))
              have oS8 : Own W8 sb #[.int .i64 ca, .int .i64 sa] := (by rw [hW8]; with_reducible (repeat' first | assumption | refine Own.drew ?_ | refine Own.drewN ?_ _ | (refine Own.at ?_; first | rfl | (simp; done)) | refine Own.past ?_ _))
              have t0 : W8.cell? ⟨tb, 0, none⟩ = some (.int .i64 cb) := oT.cell 0
              have s0 : W8.cell? ⟨sb, 0, none⟩ = some (.int .i64 ca) := oS8.cell 0
              have hB80 := hB2.trans (hB8.mono z2)
              have z8 := hB8.size
              have y1 : W8.cell? ⟨ab, ao + j * 5 + 1, none⟩ = some (.int .i64 op.r) := (hB80.cell (p := ⟨ab, ao + j * 5 + 1, none⟩) hab).trans (HY1.out)
              have y2 : W8.cell? ⟨ab, ao + j * 5 + 2, none⟩ = some (.int .i64 op.c) := (hB80.cell (p := ⟨ab, ao + j * 5 + 2, none⟩) hab).trans (HY2.out)
              have y3 : W8.cell? ⟨ab, ao + k * 5 + 1, none⟩ = some (.int .i64 op'.r) := (hB80.cell (p := ⟨ab, ao + k * 5 + 1, none⟩) hab).trans (HY3.out)
              have y4 : W8.cell? ⟨ab, ao + k * 5 + 2, none⟩ = some (.int .i64 op'.c) := (hB80.cell (p := ⟨ab, ao + k * 5 + 2, none⟩) hab).trans (HY4.out)
              have lab8 : ab < W8.heap.size := by omega
              have lT := oT.lt
              have lS := oS8.lt
              rw [← hW8, ← htb]
              clear hW8 htb hBc zc hB6 z6
              by_cases hca0 : 0 < ca
              · have d1 : decide (0 < ca) = true := decide_eq_true hca0
                by_cases hcc : ca = cb
                · have HSM : Hid (op.r = op'.r ∧ op.c = op'.c) := (show _ ∧ _ from by
                    have q := HLo.out.dis ⟨op.r, op.c⟩ ⟨op'.r, op'.c⟩ (by rw [← HCA.out]; exact hca0) (by rw [← HCA.out, ← HCB.out]; exact hcc)
                    simpa using q)
                  have he := neC op.r op.c op'.r op'.c
                  have hss : sameC op.r op.c op'.r op'.c = true := by unfold sameC; exact decide_eq_true HSM.out
                  rw [hss] at he
                  subst hcc
                  go_region_held3 (fun w' => w'.cell? ⟨sb, 0, none⟩ = some (.int .i64 ca) ∧ w'.cell? ⟨tb, 0, none⟩ = some (.int .i64 ca) ∧ w'.cell? ⟨ab, ao + j * 5 + 1, none⟩ = some (.int .i64 op.r) ∧ w'.cell? ⟨ab, ao + j * 5 + 2, none⟩ = some (.int .i64 op.c) ∧ w'.cell? ⟨ab, ao + k * 5 + 1, none⟩ = some (.int .i64 op'.r) ∧ w'.cell? ⟨ab, ao + k * 5 + 2, none⟩ = some (.int .i64 op'.c)) ((repeat' apply And.intro) <;> (first | (go_keep; done) | (go_simp; done))) (fail)
                  go_wp2
                  exact ⟨⟨k + 1, by go_num, by omega, by with_reducible (repeat' first | assumption | exact Below.refl _ _ | refine Below.drew ?_ | refine bdrewN ?_ _ | refine Below.setCell ?_ (by first | exact Nat.le_refl _ | (simp; done) | (simp; omega) | omega) _ | refine Below.alloc ?_ (by first | exact Nat.le_refl _ | (simp; done) | (simp; omega) | omega) _), (show Own _ _ _ from by with_reducible (repeat' first | assumption | refine Own.drew ?_ | refine Own.drewN ?_ _ | (refine Own.at ?_; first | rfl | (simp; done)) | refine Own.past ?_ _))⟩, by simp [intOf]; omega⟩
                · have d2 : decide (ca = cb) = false := decide_eq_false hcc
                  have d3 : (ca == cb) = false := by simp [hcc]
                  refine wp_region_held_drew (S := (fun w' => w'.cell? ⟨sb, 0, none⟩ = some (.int .i64 ca) ∧ w'.cell? ⟨tb, 0, none⟩ = some (.int .i64 cb) ∧ w'.cell? ⟨ab, ao + j * 5 + 1, none⟩ = some (.int .i64 op.r) ∧ w'.cell? ⟨ab, ao + j * 5 + 2, none⟩ = some (.int .i64 op.c) ∧ w'.cell? ⟨ab, ao + k * 5 + 1, none⟩ = some (.int .i64 op'.r) ∧ w'.cell? ⟨ab, ao + k * 5 + 2, none⟩ = some (.int .i64 op'.c))) (by kernel_rfl) (by (try dsimp only); ((repeat' apply And.intro) <;> (first | (go_keep; done) | (go_simp; done)))) (fun hHeld => ?_)
                  refine wpAnyH_take (i := 0) (v := .pointer (some ⟨sb, 0, none⟩)) rfl (by kernel_rfl) (by kernel_rfl) (by kernel_rfl) (fun _ _ _ h => h) (Or.inl ⟨by first | rfl | kernel_rfl, by intro wz hSw; (try dsimp only at hSw); go_simp⟩) (by assumption) ?_
                  (try simp only [Act.put, List.getElem_toArray, List.getElem_cons_succ, List.getElem_cons_zero, List.setIfInBounds_toArray, List.set_cons_zero, List.set_cons_succ])
                  refine wpAnyH_take (i := 1) (v := .int .i64 ca) rfl (by kernel_rfl) (by kernel_rfl) (by kernel_rfl) (fun _ _ _ h => h) (Or.inl ⟨by first | rfl | kernel_rfl, by intro wz hSw; (try dsimp only at hSw); go_simp⟩) (by assumption) ?_
                  (try simp only [Act.put, List.getElem_toArray, List.getElem_cons_succ, List.getElem_cons_zero, List.setIfInBounds_toArray, List.set_cons_zero, List.set_cons_succ])
                  refine wpAnyH_take (i := 2) (v := .bool true) rfl (by kernel_rfl) (by kernel_rfl) (by kernel_rfl) (fun _ _ _ h => h) (Or.inl ⟨by first | rfl | kernel_rfl, by intro wz hSw; (try dsimp only at hSw); go_simp⟩) (by assumption) ?_
                  (try simp only [Act.put, List.getElem_toArray, List.getElem_cons_succ, List.getElem_cons_zero, List.setIfInBounds_toArray, List.set_cons_zero, List.set_cons_succ])
                  refine wpAnyH_take (i := 3) (v := .bool true) rfl (by kernel_rfl) (by kernel_rfl) (by kernel_rfl) (fun _ _ _ h => h) (Or.inl ⟨by first | rfl | kernel_rfl, by intro wz hSw; (try dsimp only at hSw); go_simp⟩) (by assumption) ?_
                  (try simp only [Act.put, List.getElem_toArray, List.getElem_cons_succ, List.getElem_cons_zero, List.setIfInBounds_toArray, List.set_cons_zero, List.set_cons_succ])
                  refine wpAnyH_take (i := 4) (v := .pointer (some ⟨sb, 0, none⟩)) rfl (by kernel_rfl) (by kernel_rfl) (by kernel_rfl) (fun _ _ _ h => h) (Or.inl ⟨by first | rfl | kernel_rfl, by intro wz hSw; (try dsimp only at hSw); go_simp⟩) (by assumption) ?_
                  (try simp only [Act.put, List.getElem_toArray, List.getElem_cons_succ, List.getElem_cons_zero, List.setIfInBounds_toArray, List.set_cons_zero, List.set_cons_succ])
                  refine wpAnyH_take (i := 5) (v := .int .i64 ca) rfl (by kernel_rfl) (by kernel_rfl) (by kernel_rfl) (fun _ _ _ h => h) (Or.inl ⟨by first | rfl | kernel_rfl, by intro wz hSw; (try dsimp only at hSw); go_simp⟩) (by assumption) ?_
                  (try simp only [Act.put, List.getElem_toArray, List.getElem_cons_succ, List.getElem_cons_zero, List.setIfInBounds_toArray, List.set_cons_zero, List.set_cons_succ])
                  refine wpAnyH_take (i := 6) (v := .pointer (some ⟨tb, 0, none⟩)) rfl (by kernel_rfl) (by kernel_rfl) (by kernel_rfl) (fun _ _ _ h => h) (Or.inl ⟨by first | rfl | kernel_rfl, by intro wz hSw; (try dsimp only at hSw); go_simp⟩) (by assumption) ?_
                  (try simp only [Act.put, List.getElem_toArray, List.getElem_cons_succ, List.getElem_cons_zero, List.setIfInBounds_toArray, List.set_cons_zero, List.set_cons_succ])
                  refine wpAnyH_take (i := 7) (v := .int .i64 cb) rfl (by kernel_rfl) (by kernel_rfl) (by kernel_rfl) (fun _ _ _ h => h) (Or.inl ⟨by first | rfl | kernel_rfl, by intro wz hSw; (try dsimp only at hSw); go_simp⟩) (by assumption) ?_
                  (try simp only [Act.put, List.getElem_toArray, List.getElem_cons_succ, List.getElem_cons_zero, List.setIfInBounds_toArray, List.set_cons_zero, List.set_cons_succ])
                  refine wpAnyH_take (i := 8) (v := .bool false) rfl (by kernel_rfl) (by kernel_rfl) (by kernel_rfl) (fun _ _ _ h => h) (Or.inl ⟨by first | rfl | kernel_rfl, by intro wz hSw; (try dsimp only at hSw); go_simp⟩) (by assumption) ?_
                  (try simp only [Act.put, List.getElem_toArray, List.getElem_cons_succ, List.getElem_cons_zero, List.setIfInBounds_toArray, List.set_cons_zero, List.set_cons_succ])
                  refine wpAnyH_take (i := 9) (v := .bool false) rfl (by kernel_rfl) (by kernel_rfl) (by kernel_rfl) (fun _ _ _ h => h) (Or.inl ⟨by first | rfl | kernel_rfl, by intro wz hSw; (try dsimp only at hSw); go_simp⟩) (by assumption) ?_
                  (try simp only [Act.put, List.getElem_toArray, List.getElem_cons_succ, List.getElem_cons_zero, List.setIfInBounds_toArray, List.set_cons_zero, List.set_cons_succ])
                  refine wpAnyH_take (i := 10) (v := .bool false) rfl (by kernel_rfl) (by kernel_rfl) (by kernel_rfl) (fun _ _ _ h => h) (Or.inl ⟨by first | rfl | kernel_rfl, by intro wz hSw; (try dsimp only at hSw); go_simp⟩) (by assumption) ?_
                  (try simp only [Act.put, List.getElem_toArray, List.getElem_cons_succ, List.getElem_cons_zero, List.setIfInBounds_toArray, List.set_cons_zero, List.set_cons_succ])
                  refine wpAnyH_take (i := 11) (v := undef) rfl (by kernel_rfl) (by kernel_rfl) (by kernel_rfl) (fun _ _ _ h => h) (Or.inr ⟨by kernel_rfl, rfl⟩) (by assumption) ?_
                  (try simp only [Act.put, List.getElem_toArray, List.getElem_cons_succ, List.getElem_cons_zero, List.setIfInBounds_toArray, List.set_cons_zero, List.set_cons_succ])
                  refine wpAnyH_take (i := 12) (v := undef) rfl (by kernel_rfl) (by kernel_rfl) (by kernel_rfl) (fun _ _ _ h => h) (Or.inr ⟨by kernel_rfl, rfl⟩) (by assumption) ?_
                  (try simp only [Act.put, List.getElem_toArray, List.getElem_cons_succ, List.getElem_cons_zero, List.setIfInBounds_toArray, List.set_cons_zero, List.set_cons_succ])
                  refine wpAnyH_take (i := 13) (v := undef) rfl (by kernel_rfl) (by kernel_rfl) (by kernel_rfl) (fun _ _ _ h => h) (Or.inr ⟨by kernel_rfl, rfl⟩) (by assumption) ?_
                  (try simp only [Act.put, List.getElem_toArray, List.getElem_cons_succ, List.getElem_cons_zero, List.setIfInBounds_toArray, List.set_cons_zero, List.set_cons_succ])
                  refine wpAnyH_take (i := 14) (v := undef) rfl (by kernel_rfl) (by kernel_rfl) (by kernel_rfl) (fun _ _ _ h => h) (Or.inr ⟨by kernel_rfl, rfl⟩) (by assumption) ?_
                  (try simp only [Act.put, List.getElem_toArray, List.getElem_cons_succ, List.getElem_cons_zero, List.setIfInBounds_toArray, List.set_cons_zero, List.set_cons_succ])
                  refine wpAnyH_take (i := 15) (v := undef) rfl (by kernel_rfl) (by kernel_rfl) (by kernel_rfl) (fun _ _ _ h => h) (Or.inr ⟨by kernel_rfl, rfl⟩) (by assumption) ?_
                  (try simp only [Act.put, List.getElem_toArray, List.getElem_cons_succ, List.getElem_cons_zero, List.setIfInBounds_toArray, List.set_cons_zero, List.set_cons_succ])
                  refine wpAnyH_take (i := 16) (v := undef) rfl (by kernel_rfl) (by kernel_rfl) (by kernel_rfl) (fun _ _ _ h => h) (Or.inr ⟨by kernel_rfl, rfl⟩) (by assumption) ?_
                  (try simp only [Act.put, List.getElem_toArray, List.getElem_cons_succ, List.getElem_cons_zero, List.setIfInBounds_toArray, List.set_cons_zero, List.set_cons_succ])
                  refine wpAnyH_take (i := 17) (v := undef) rfl (by kernel_rfl) (by kernel_rfl) (by kernel_rfl) (fun _ _ _ h => h) (Or.inr ⟨by kernel_rfl, rfl⟩) (by assumption) ?_
                  (try simp only [Act.put, List.getElem_toArray, List.getElem_cons_succ, List.getElem_cons_zero, List.setIfInBounds_toArray, List.set_cons_zero, List.set_cons_succ])
                  refine wpAnyH_take (i := 18) (v := undef) rfl (by kernel_rfl) (by kernel_rfl) (by kernel_rfl) (fun _ _ _ h => h) (Or.inr ⟨by kernel_rfl, rfl⟩) (by assumption) ?_
                  (try simp only [Act.put, List.getElem_toArray, List.getElem_cons_succ, List.getElem_cons_zero, List.setIfInBounds_toArray, List.set_cons_zero, List.set_cons_succ])
                  refine wpAnyH_take (i := 19) (v := undef) rfl (by kernel_rfl) (by kernel_rfl) (by kernel_rfl) (fun _ _ _ h => h) (Or.inr ⟨by kernel_rfl, rfl⟩) (by assumption) ?_
                  (try simp only [Act.put, List.getElem_toArray, List.getElem_cons_succ, List.getElem_cons_zero, List.setIfInBounds_toArray, List.set_cons_zero, List.set_cons_succ])
                  refine wpAnyH_take (i := 20) (v := undef) rfl (by kernel_rfl) (by kernel_rfl) (by kernel_rfl) (fun _ _ _ h => h) (Or.inr ⟨by kernel_rfl, rfl⟩) (by assumption) ?_
                  (try simp only [Act.put, List.getElem_toArray, List.getElem_cons_succ, List.getElem_cons_zero, List.setIfInBounds_toArray, List.set_cons_zero, List.set_cons_succ])
                  refine wpAnyH_take (i := 21) (v := undef) rfl (by kernel_rfl) (by kernel_rfl) (by kernel_rfl) (fun _ _ _ h => h) (Or.inr ⟨by kernel_rfl, rfl⟩) (by assumption) ?_
                  (try simp only [Act.put, List.getElem_toArray, List.getElem_cons_succ, List.getElem_cons_zero, List.setIfInBounds_toArray, List.set_cons_zero, List.set_cons_succ])
                  refine wpAnyH_take (i := 22) (v := .bool false) rfl (by kernel_rfl) (by kernel_rfl) (by kernel_rfl) (fun _ _ _ h => h) (Or.inl ⟨by first | rfl | kernel_rfl, by intro wz hSw; (try dsimp only at hSw); go_simp⟩) (by assumption) ?_
                  (try simp only [Act.put, List.getElem_toArray, List.getElem_cons_succ, List.getElem_cons_zero, List.setIfInBounds_toArray, List.set_cons_zero, List.set_cons_succ])
                  refine wpAnyH_done (by kernel_rfl) ?_ _
                  go_wp2
                  exact ⟨⟨k + 1, by go_num, by omega, by with_reducible (repeat' first | assumption | exact Below.refl _ _ | refine Below.drew ?_ | refine bdrewN ?_ _ | refine Below.setCell ?_ (by first | exact Nat.le_refl _ | (simp; done) | (simp; omega) | omega) _ | refine Below.alloc ?_ (by first | exact Nat.le_refl _ | (simp; done) | (simp; omega) | omega) _), (show Own _ _ _ from by with_reducible (repeat' first | assumption | refine Own.drew ?_ | refine Own.drewN ?_ _ | (refine Own.at ?_; first | rfl | (simp; done)) | refine Own.past ?_ _))⟩, by simp [intOf]; omega⟩
              · have d1 : decide (0 < ca) = false := decide_eq_false hca0
                refine wp_region_held_drew (S := (fun w' => w'.cell? ⟨sb, 0, none⟩ = some (.int .i64 ca) ∧ w'.cell? ⟨tb, 0, none⟩ = some (.int .i64 cb) ∧ w'.cell? ⟨ab, ao + j * 5 + 1, none⟩ = some (.int .i64 op.r) ∧ w'.cell? ⟨ab, ao + j * 5 + 2, none⟩ = some (.int .i64 op.c) ∧ w'.cell? ⟨ab, ao + k * 5 + 1, none⟩ = some (.int .i64 op'.r) ∧ w'.cell? ⟨ab, ao + k * 5 + 2, none⟩ = some (.int .i64 op'.c))) (by kernel_rfl) (by (try dsimp only); ((repeat' apply And.intro) <;> (first | (go_keep; done) | (go_simp; done)))) (fun hHeld => ?_)
                refine wpAnyH_take (i := 0) (v := .pointer (some ⟨sb, 0, none⟩)) rfl (by kernel_rfl) (by kernel_rfl) (by kernel_rfl) (fun _ _ _ h => h) (Or.inl ⟨by first | rfl | kernel_rfl, by intro wz hSw; (try dsimp only at hSw); go_simp⟩) (by assumption) ?_
                (try simp only [Act.put, List.getElem_toArray, List.getElem_cons_succ, List.getElem_cons_zero, List.setIfInBounds_toArray, List.set_cons_zero, List.set_cons_succ])
                refine wpAnyH_take (i := 1) (v := .int .i64 ca) rfl (by kernel_rfl) (by kernel_rfl) (by kernel_rfl) (fun _ _ _ h => h) (Or.inl ⟨by first | rfl | kernel_rfl, by intro wz hSw; (try dsimp only at hSw); go_simp⟩) (by assumption) ?_
                (try simp only [Act.put, List.getElem_toArray, List.getElem_cons_succ, List.getElem_cons_zero, List.setIfInBounds_toArray, List.set_cons_zero, List.set_cons_succ])
                refine wpAnyH_take (i := 2) (v := .bool false) rfl (by kernel_rfl) (by kernel_rfl) (by kernel_rfl) (fun _ _ _ h => h) (Or.inl ⟨by first | rfl | kernel_rfl, by intro wz hSw; (try dsimp only at hSw); go_simp⟩) (by assumption) ?_
                (try simp only [Act.put, List.getElem_toArray, List.getElem_cons_succ, List.getElem_cons_zero, List.setIfInBounds_toArray, List.set_cons_zero, List.set_cons_succ])
                refine wpAnyH_take (i := 3) (v := .bool false) rfl (by kernel_rfl) (by kernel_rfl) (by kernel_rfl) (fun _ _ _ h => h) (Or.inl ⟨by first | rfl | kernel_rfl, by intro wz hSw; (try dsimp only at hSw); go_simp⟩) (by assumption) ?_
                (try simp only [Act.put, List.getElem_toArray, List.getElem_cons_succ, List.getElem_cons_zero, List.setIfInBounds_toArray, List.set_cons_zero, List.set_cons_succ])
                refine wpAnyH_take (i := 4) (v := undef) rfl (by kernel_rfl) (by kernel_rfl) (by kernel_rfl) (fun _ _ _ h => h) (Or.inr ⟨by kernel_rfl, rfl⟩) (by assumption) ?_
                (try simp only [Act.put, List.getElem_toArray, List.getElem_cons_succ, List.getElem_cons_zero, List.setIfInBounds_toArray, List.set_cons_zero, List.set_cons_succ])
                refine wpAnyH_take (i := 5) (v := undef) rfl (by kernel_rfl) (by kernel_rfl) (by kernel_rfl) (fun _ _ _ h => h) (Or.inr ⟨by kernel_rfl, rfl⟩) (by assumption) ?_
                (try simp only [Act.put, List.getElem_toArray, List.getElem_cons_succ, List.getElem_cons_zero, List.setIfInBounds_toArray, List.set_cons_zero, List.set_cons_succ])
                refine wpAnyH_take (i := 6) (v := undef) rfl (by kernel_rfl) (by kernel_rfl) (by kernel_rfl) (fun _ _ _ h => h) (Or.inr ⟨by kernel_rfl, rfl⟩) (by assumption) ?_
                (try simp only [Act.put, List.getElem_toArray, List.getElem_cons_succ, List.getElem_cons_zero, List.setIfInBounds_toArray, List.set_cons_zero, List.set_cons_succ])
                refine wpAnyH_take (i := 7) (v := undef) rfl (by kernel_rfl) (by kernel_rfl) (by kernel_rfl) (fun _ _ _ h => h) (Or.inr ⟨by kernel_rfl, rfl⟩) (by assumption) ?_
                (try simp only [Act.put, List.getElem_toArray, List.getElem_cons_succ, List.getElem_cons_zero, List.setIfInBounds_toArray, List.set_cons_zero, List.set_cons_succ])
                refine wpAnyH_take (i := 8) (v := undef) rfl (by kernel_rfl) (by kernel_rfl) (by kernel_rfl) (fun _ _ _ h => h) (Or.inr ⟨by kernel_rfl, rfl⟩) (by assumption) ?_
                (try simp only [Act.put, List.getElem_toArray, List.getElem_cons_succ, List.getElem_cons_zero, List.setIfInBounds_toArray, List.set_cons_zero, List.set_cons_succ])
                refine wpAnyH_take (i := 9) (v := .bool false) rfl (by kernel_rfl) (by kernel_rfl) (by kernel_rfl) (fun _ _ _ h => h) (Or.inl ⟨by first | rfl | kernel_rfl, by intro wz hSw; (try dsimp only at hSw); go_simp⟩) (by assumption) ?_
                (try simp only [Act.put, List.getElem_toArray, List.getElem_cons_succ, List.getElem_cons_zero, List.setIfInBounds_toArray, List.set_cons_zero, List.set_cons_succ])
                refine wpAnyH_take (i := 10) (v := .bool false) rfl (by kernel_rfl) (by kernel_rfl) (by kernel_rfl) (fun _ _ _ h => h) (Or.inl ⟨by first | rfl | kernel_rfl, by intro wz hSw; (try dsimp only at hSw); go_simp⟩) (by assumption) ?_
                (try simp only [Act.put, List.getElem_toArray, List.getElem_cons_succ, List.getElem_cons_zero, List.setIfInBounds_toArray, List.set_cons_zero, List.set_cons_succ])
                refine wpAnyH_take (i := 11) (v := undef) rfl (by kernel_rfl) (by kernel_rfl) (by kernel_rfl) (fun _ _ _ h => h) (Or.inr ⟨by kernel_rfl, rfl⟩) (by assumption) ?_
                (try simp only [Act.put, List.getElem_toArray, List.getElem_cons_succ, List.getElem_cons_zero, List.setIfInBounds_toArray, List.set_cons_zero, List.set_cons_succ])
                refine wpAnyH_take (i := 12) (v := undef) rfl (by kernel_rfl) (by kernel_rfl) (by kernel_rfl) (fun _ _ _ h => h) (Or.inr ⟨by kernel_rfl, rfl⟩) (by assumption) ?_
                (try simp only [Act.put, List.getElem_toArray, List.getElem_cons_succ, List.getElem_cons_zero, List.setIfInBounds_toArray, List.set_cons_zero, List.set_cons_succ])
                refine wpAnyH_take (i := 13) (v := undef) rfl (by kernel_rfl) (by kernel_rfl) (by kernel_rfl) (fun _ _ _ h => h) (Or.inr ⟨by kernel_rfl, rfl⟩) (by assumption) ?_
                (try simp only [Act.put, List.getElem_toArray, List.getElem_cons_succ, List.getElem_cons_zero, List.setIfInBounds_toArray, List.set_cons_zero, List.set_cons_succ])
                refine wpAnyH_take (i := 14) (v := undef) rfl (by kernel_rfl) (by kernel_rfl) (by kernel_rfl) (fun _ _ _ h => h) (Or.inr ⟨by kernel_rfl, rfl⟩) (by assumption) ?_
                (try simp only [Act.put, List.getElem_toArray, List.getElem_cons_succ, List.getElem_cons_zero, List.setIfInBounds_toArray, List.set_cons_zero, List.set_cons_succ])
                refine wpAnyH_take (i := 15) (v := undef) rfl (by kernel_rfl) (by kernel_rfl) (by kernel_rfl) (fun _ _ _ h => h) (Or.inr ⟨by kernel_rfl, rfl⟩) (by assumption) ?_
                (try simp only [Act.put, List.getElem_toArray, List.getElem_cons_succ, List.getElem_cons_zero, List.setIfInBounds_toArray, List.set_cons_zero, List.set_cons_succ])
                refine wpAnyH_take (i := 16) (v := undef) rfl (by kernel_rfl) (by kernel_rfl) (by kernel_rfl) (fun _ _ _ h => h) (Or.inr ⟨by kernel_rfl, rfl⟩) (by assumption) ?_
                (try simp only [Act.put, List.getElem_toArray, List.getElem_cons_succ, List.getElem_cons_zero, List.setIfInBounds_toArray, List.set_cons_zero, List.set_cons_succ])
                refine wpAnyH_take (i := 17) (v := undef) rfl (by kernel_rfl) (by kernel_rfl) (by kernel_rfl) (fun _ _ _ h => h) (Or.inr ⟨by kernel_rfl, rfl⟩) (by assumption) ?_
                (try simp only [Act.put, List.getElem_toArray, List.getElem_cons_succ, List.getElem_cons_zero, List.setIfInBounds_toArray, List.set_cons_zero, List.set_cons_succ])
                refine wpAnyH_take (i := 18) (v := undef) rfl (by kernel_rfl) (by kernel_rfl) (by kernel_rfl) (fun _ _ _ h => h) (Or.inr ⟨by kernel_rfl, rfl⟩) (by assumption) ?_
                (try simp only [Act.put, List.getElem_toArray, List.getElem_cons_succ, List.getElem_cons_zero, List.setIfInBounds_toArray, List.set_cons_zero, List.set_cons_succ])
                refine wpAnyH_take (i := 19) (v := undef) rfl (by kernel_rfl) (by kernel_rfl) (by kernel_rfl) (fun _ _ _ h => h) (Or.inr ⟨by kernel_rfl, rfl⟩) (by assumption) ?_
                (try simp only [Act.put, List.getElem_toArray, List.getElem_cons_succ, List.getElem_cons_zero, List.setIfInBounds_toArray, List.set_cons_zero, List.set_cons_succ])
                refine wpAnyH_take (i := 20) (v := undef) rfl (by kernel_rfl) (by kernel_rfl) (by kernel_rfl) (fun _ _ _ h => h) (Or.inr ⟨by kernel_rfl, rfl⟩) (by assumption) ?_
                (try simp only [Act.put, List.getElem_toArray, List.getElem_cons_succ, List.getElem_cons_zero, List.setIfInBounds_toArray, List.set_cons_zero, List.set_cons_succ])
                refine wpAnyH_take (i := 21) (v := undef) rfl (by kernel_rfl) (by kernel_rfl) (by kernel_rfl) (fun _ _ _ h => h) (Or.inr ⟨by kernel_rfl, rfl⟩) (by assumption) ?_
                (try simp only [Act.put, List.getElem_toArray, List.getElem_cons_succ, List.getElem_cons_zero, List.setIfInBounds_toArray, List.set_cons_zero, List.set_cons_succ])
                refine wpAnyH_take (i := 22) (v := .bool false) rfl (by kernel_rfl) (by kernel_rfl) (by kernel_rfl) (fun _ _ _ h => h) (Or.inl ⟨by first | rfl | kernel_rfl, by intro wz hSw; (try dsimp only at hSw); go_simp⟩) (by assumption) ?_
                (try simp only [Act.put, List.getElem_toArray, List.getElem_cons_succ, List.getElem_cons_zero, List.setIfInBounds_toArray, List.set_cons_zero, List.set_cons_succ])
                refine wpAnyH_done (by kernel_rfl) ?_ _
                go_wp2
                exact ⟨⟨k + 1, by go_num, by omega, by with_reducible (repeat' first | assumption | exact Below.refl _ _ | refine Below.drew ?_ | refine bdrewN ?_ _ | refine Below.setCell ?_ (by first | exact Nat.le_refl _ | (simp; done) | (simp; omega) | omega) _ | refine Below.alloc ?_ (by first | exact Nat.le_refl _ | (simp; done) | (simp; omega) | omega) _), (show Own _ _ _ from by with_reducible (repeat' first | assumption | refine Own.drew ?_ | refine Own.drewN ?_ _ | (refine Own.at ?_; first | rfl | (simp; done)) | refine Own.past ?_ _))⟩, by simp [intOf]; omega⟩
            · have hkj' : ¬ ((k : Int) < j) := by omega
              go_wp2
              exact ⟨⟨j + 1, by go_num, by omega, by with_reducible (repeat' first | assumption | exact Below.refl _ _ | refine Below.drew ?_ | refine bdrewN ?_ _ | refine Below.setCell ?_ (by first | exact Nat.le_refl _ | (simp; done) | (simp; omega) | omega) _ | refine Below.alloc ?_ (by first | exact Nat.le_refl _ | (simp; done) | (simp; omega) | omega) _)⟩, by simp [intOf]; omega⟩
        · have hjn' : ¬ ((j : Int) < n) := by omega
          go_wp2
          go_ret
          exact ⟨rfl, hB2.trans ((show Below w2.heap.size w2 _ from by with_reducible (repeat' first | assumption | exact Below.refl _ _ | refine Below.drew ?_ | refine bdrewN ?_ _ | refine Below.setCell ?_ (by first | exact Nat.le_refl _ | (simp; done) | (simp; omega) | omega) _ | refine Below.alloc ?_ (by first | exact Nat.le_refl _ | (simp; done) | (simp; omega) | omega) _)).mono z2)⟩
end Go.Proofs.Ytmajbophgdimlaa
