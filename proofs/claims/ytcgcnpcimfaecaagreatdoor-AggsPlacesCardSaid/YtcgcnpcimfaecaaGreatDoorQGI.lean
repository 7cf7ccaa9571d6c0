/- The iterator of the items of arguments gives just these. Small laws of no function: a cell of a block of one's own is put; what a type tells. -/
import Derived.Test.YtcgcnpcimfaecaaGreatDoorQAdA5
import Derived.Test.YtcgcnpcimfaecaaGreatDoorQNR
import Derived.Shelf.Abstract
import Derived.Shelf.RegionOpen
import Derived.OwnWalkIn
import Derived.TacticsInMore
import Derived.LoopNIn
import Derived.LoopIn
import Derived.Test.YtcgcnpcimfaecaaGreatDoorQNT4
import Derived.Laws.OwnMore
import Derived.Laws.MakeOwn
namespace Go.Proofs.YtcgcnpcimfaecaaGreatDoor
open Go.Shelf Go.RowKit
set_option linter.all false
attribute [local go_sem] Oper.semAt_some
/-- An item: a value. -/
structure It where
  t : Int
  n : Int
  s : ByteArray
  b : Bool
  c : Int
def itA (a : Ag) : It := ⟨a.t, a.n, a.s, a.b, a.c⟩
def itE (e : En) : It := ⟨e.t, e.n, e.s, e.b, e.c⟩
def encI (x : It) : Array Value := #[.agg #[.int .i64 x.t, .int .i64 x.n, .string x.s, .bool x.b, .int .i64 x.c]]
/-- The items of an argument, of arguments. -/
def itP (p : Ag × List En) : List It := (if p.1.many then [] else [itA p.1]) ++ p.2.map itE
def itms (L : List (Ag × List En)) : List It := L.flatMap itP
theorem itms_snoc {L : List (Ag × List En)} {i : Nat} {q : Ag × List En} (h : L[i]? = some q) : itms (L.take (i + 1)) = itms (L.take i) ++ itP q := by
  unfold itms; rw [List.take_succ, h, Option.toList_some, List.flatMap_append]; simp
theorem itms_split {L : List (Ag × List En)} {i : Nat} {q : Ag × List En} (h : L[i]? = some q) : itms L = itms (L.take i) ++ (itP q ++ itms (L.drop (i + 1))) := by
  obtain ⟨hi, e⟩ := List.getElem?_eq_some_iff.1 h
  have e2 : L = L.take i ++ q :: L.drop (i + 1) := by rw [← e, List.getElem_cons_drop, List.take_append_drop]
  conv => lhs; rw [e2]
  unfold itms; rw [List.flatMap_append, List.flatMap_cons]
theorem itms_at {L : List (Ag × List En)} {i : Nat} {q : Ag × List En} (h : L[i]? = some q) {j : Nat} {x : It} (hx : (itP q)[j]? = some x) : (itms L)[(itms (L.take i)).length + j]? = some x := by
  rw [itms_split h, List.getElem?_append_right (by omega), Nat.add_sub_cancel_left, List.getElem?_append_left (List.getElem?_eq_some_iff.1 hx).1, hx]
theorem itms_lt {L : List (Ag × List En)} {i : Nat} {q : Ag × List En} (h : L[i]? = some q) {j : Nat} {x : It} (hx : (itP q)[j]? = some x) : (itms (L.take i)).length + j < (itms L).length := (List.getElem?_eq_some_iff.1 (itms_at h hx)).1
theorem keepB {Ft Ft' Ft0 : Nat → Prop} {wr W W' : World} {x : Obj} {N : Nat} (ht : Turn Ft Ft' (wr.alloc x) W') (hfr : ∀ b, Ft b → Ft0 b ∨ W.heap.size ≤ b) (hNF : ∀ q, q < N → ¬ Ft0 q) (hNW : N ≤ W.heap.size) (hsz : W.heap.size ≤ wr.heap.size) (q : Nat) (hq : q < N) : W'.heap[q]? = wr.heap[q]? := by
  have h1 := ht.block q (by rw [World.size_alloc]; omega) (fun h => by rcases hfr q h with h2 | h2; exact hNF q hq h2; omega)
  rw [h1]
  exact (bal wr x).block q (by omega)
set_option maxHeartbeats 8000000 in
set_option maxRecDepth 100000 in
theorem items_y (L : List (Ag × List En)) (B ab ao n ac : Nat) (wB w0 : World) (hB : w0.cell? ⟨B, 0, none⟩ = some (.slice (some ⟨ab, ao, none⟩) n ac)) (hab : ab < wB.heap.size) (HA : ∀ i x, (L.map Prod.fst)[i]? = some x → ∀ j, j < 11 → wB.cell? ⟨ab, ao + i * 11 + j, none⟩ = (Ag.cells x)[j]?) (hn : L.length = n) (hc : n ≤ ac) (h40 : n ≤ 1099511627776) (hE : ∀ p ∈ L, AgE wB p) (hs0 : ∀ q, q < wB.heap.size → w0.heap[q]? = wB.heap[q]?) :
    Gives Tryz.prog 104 #[.pointer (some ⟨B, 0, none⟩)] encI (itms L) (fun k => k = B ∨ k < wB.heap.size) w0 := by
  intro l J Jx Ft0 W hown hF0 hJ hJx hY h0 m
  obtain ⟨hB1, hB2, hB3⟩ := hown B (.inl rfl)
  have hc0 : W.cell? ⟨B, 0, none⟩ = some (.slice (some ⟨ab, ao, none⟩) n ac) := (World.cell?_of_block hB1).trans hB
  have hNF : ∀ q, q < wB.heap.size → ¬ Ft0 q := fun q hq => (hown q (.inr hq)).2.1
  have hNW : wB.heap.size ≤ W.heap.size := by
    by_cases h : wB.heap.size = 0
    · omega
    · have := (hown (wB.heap.size - 1) (.inr (by omega))).2.2; omega
  have hsW : ∀ q, q < wB.heap.size → W.heap[q]? = wB.heap[q]? := fun q hq => ((hown q (.inr hq)).1).trans (hs0 q hq)
  have HY : Hid _ := hY
  have HJ : Hid _ := hJ
  have HJx : Hid _ := hJx
  have HA' : Hid _ := HA
  have HL : Hid (L.length = n) := hn
  have HE : Hid _ := hE
  clear hY hJ hJx hown hB hB1 HA hn hE hs0
  refine callsIn_wide.2 ((callsIn_wide (n := 5)).1 ?_)
  refine callsIn_of_wp Tryz.func104 rfl trivial ?_ rfl
  simp only [Tryz.ntmps104, List.size_toArray, List.length_cons, List.length_nil, Nat.reduceAdd, Nat.reduceSub, Array.replicate_succ, Array.replicate_zero, List.push_toArray, List.append_toArray, List.nil_append, List.cons_append]
  gi_wp2
  gi_loopw [9] (fun vv wr => ∃ (i k : Nat) (Ft : Nat → Prop), vv = .int .i64 i ∧ i ≤ n ∧ J k Ft wr ∧ W.heap.size ≤ wr.heap.size ∧ (∀ b, Ft b → b < wr.heap.size) ∧ (∀ b, Ft b → Ft0 b ∨ W.heap.size ≤ b) ∧ Hid ((∀ q, q < wB.heap.size → wr.heap[q]? = wB.heap[q]?) ∧ k = (itms (L.take i)).length)) (fun vv _ => n - (intOf vv).toNat)
  case atStart => exact ⟨0, 0, Ft0, rfl, by omega, h0, Nat.le_refl _, hF0, fun b h => .inl h, (show Hid _ from ⟨hsW, rfl⟩)⟩
  case round =>
    obtain ⟨i, k, Ft, rfl, hi, hJw, hsz, hlt, hfr, HP⟩ := hrel
    obtain ⟨hsm, hk⟩ := HP.out
    clear HP
    by_cases hin : i < n
    · have hin' : (i : Int) < n := by omega
      have hai : L[i]? = some (L[i]'(by rw [HL.out]; exact hin)) := List.getElem?_eq_getElem _
      have hae := HE.out _ (List.mem_of_getElem? hai)
      have ca := fun z hz => (World.cell?_of_block (w := wB) (hsm ab hab)).trans (HA'.out i (L[i]'(by rw [HL.out]; exact hin)).1 (by rw [List.getElem?_map, hai]; rfl) z hz)
      have HQ : Hid _ := hai
      revert ca HQ hae
      generalize (L[i]'(by rw [HL.out]; exact hin)) = q
      intro hae ca HQ
      clear hai
      obtain ⟨⟨mb, t, n1, s, b1, c1, r0, r1, r2, r3, ep, en, ec⟩, es⟩ := q
      obtain ⟨⟨qp, qc, e0, hqc, hev⟩, _, _, hl4⟩ := hae
      injection e0 with e1 e2 e3
      simp only at e1 e2 e3 hl4 hqc hev
      subst e1 e3
      have hle : es.length = en := e2.symm
      rw [hle] at hqc hev hl4
      clear e2
      have a0 : wr.cell? ⟨ab, ao + i * 11, none⟩ = some (.bool mb) := ca 0 (by decide)
      have a1 : wr.cell? ⟨ab, ao + i * 11 + 1, none⟩ = some (.int .i64 t) := ca 1 (by decide)
      have a2 : wr.cell? ⟨ab, ao + i * 11 + 2, none⟩ = some (.int .i64 n1) := ca 2 (by decide)
      have a3 : wr.cell? ⟨ab, ao + i * 11 + 3, none⟩ = some (.string s) := ca 3 (by decide)
      have a4 : wr.cell? ⟨ab, ao + i * 11 + 4, none⟩ = some (.bool b1) := ca 4 (by decide)
      have a5 : wr.cell? ⟨ab, ao + i * 11 + 5, none⟩ = some (.int .i64 c1) := ca 5 (by decide)
      have a6 : wr.cell? ⟨ab, ao + i * 11 + 6, none⟩ = some (.int .i64 r0) := ca 6 (by decide)
      have a7 : wr.cell? ⟨ab, ao + i * 11 + 7, none⟩ = some (.int .i64 r1) := ca 7 (by decide)
      have a8 : wr.cell? ⟨ab, ao + i * 11 + 8, none⟩ = some (.int .i64 r2) := ca 8 (by decide)
      have a9 : wr.cell? ⟨ab, ao + i * 11 + 9, none⟩ = some (.int .i64 r3) := ca 9 (by decide)
      have a10 : wr.cell? ⟨ab, ao + i * 11 + 10, none⟩ = some (.slice ep en ec) := ca 10 (by decide)
      clear ca
      cases mb
      · have hitx : (itP (⟨false, t, n1, s, b1, c1, r0, r1, r2, r3, ep, en, ec⟩, es))[0]? = some ⟨t, n1, s, b1, c1⟩ := rfl
        have hat := itms_at HQ.out hitx
        have hltk := itms_lt HQ.out hitx
        rw [Nat.add_zero, ← hk] at hat hltk
        have HYr : YieldAt Fence.wide 4 Tryz.prog l #[.agg #[.int .i64 t, .int .i64 n1, .string s, .bool b1, .int .i64 c1]] (wr.alloc (.cells #[.bool false, .int .i64 t, .int .i64 n1, .string s, .bool b1, .int .i64 c1, .int .i64 r0, .int .i64 r1, .int .i64 r2, .int .i64 r3, .slice ep en ec] 40)) fun e W' => ∃ Ft', Turn Ft Ft' (wr.alloc (.cells #[.bool false, .int .i64 t, .int .i64 n1, .string s, .bool b1, .int .i64 c1, .int .i64 r0, .int .i64 r1, .int .i64 r2, .int .i64 r3, .slice ep en ec] 40)) W' ∧ ((e = .returned (.bool true) ∧ J (k + 1) Ft' W') ∨ (e = .returned (.bool false) ∧ Jx (k + 1) Ft' W')) :=
          HY.out (k) (⟨t, n1, s, b1, c1⟩) Ft (wr.alloc (.cells #[.bool false, .int .i64 t, .int .i64 n1, .string s, .bool b1, .int .i64 c1, .int .i64 r0, .int .i64 r1, .int .i64 r2, .int .i64 r3, .slice ep en ec] 40)) hat (HJ.out _ _ _ _ hJw (Keep.of_below (bal _ _) (Nat.le_refl _))) (Nat.le_trans hsz (bal _ _).size) (fun b h => Nat.lt_of_lt_of_le (hlt b h) (bal _ _).size) hfr 4
        obtain ⟨fn, tmps, assign, body, hy, hR⟩ := HYr
        have HHK : Hid _ := hk
        have HSM0 : Hid _ := hsm
        have HLT : Hid _ := hltk
        clear hk hsm hltk hat hitx
        gi_wp2
        refine hR.mono ?_
        rintro e W3 ⟨Ft3, ht, (⟨rfl, hJ3⟩ | ⟨rfl, hJx3⟩)⟩
        · have oA : Own W3 wr.heap.size #[.bool false, .int .i64 t, .int .i64 n1, .string s, .bool b1, .int .i64 c1, .int .i64 r0, .int .i64 r1, .int .i64 r2, .int .i64 r3, .slice ep en ec] := Own.of_block (Own.new wr _ _) (ht.block wr.heap.size (by rw [World.size_alloc]; omega) (fun h => by have := hlt _ h; omega))
          have cA := oA.cell
          have lA := oA.lt
          have hsz3 : W.heap.size ≤ W3.heap.size := Nat.le_trans hsz (Nat.le_trans (bal _ _).size ht.size)
          have hfr3 : ∀ b, Ft3 b → Ft0 b ∨ W.heap.size ≤ b := fun b h => by
            rcases (ht.foot b h).1 with h2 | h2
            · exact hfr b h2
            · exact .inr (by rw [World.size_alloc] at h2; omega)
          have HSM3 : Hid (∀ q, q < wB.heap.size → W3.heap[q]? = wB.heap[q]?) := (show ∀ q, q < wB.heap.size → W3.heap[q]? = wB.heap[q]? from fun q hq => (keepB ht hfr hNF hNW hsz q hq).trans (HSM0.out q hq))
          gi_wp2
          gi_loopw [26] (fun vv w5 => ∃ (j k5 : Nat) (Ft5 : Nat → Prop), vv = .int .i64 j ∧ j ≤ en ∧ J k5 Ft5 w5 ∧ W.heap.size ≤ w5.heap.size ∧ (∀ b, Ft5 b → b < w5.heap.size) ∧ (∀ b, Ft5 b → Ft0 b ∨ W.heap.size ≤ b) ∧ Hid ((∀ q, q < wB.heap.size → w5.heap[q]? = wB.heap[q]?) ∧ k5 = (itms (L.take i)).length + 1 + j)) (fun vv _ => en - (intOf vv).toNat)
          case atStart => exact ⟨0, k + 1, Ft3, rfl, by omega, hJ3, hsz3, fun b h => (ht.foot b h).2, hfr3, (show Hid _ from ⟨HSM3.out, by have := HHK.out; omega⟩)⟩
          case round =>
            obtain ⟨j, k5, Ft5, rfl, hj, hJ5, hsz5, hlt5, hfr5, HP5⟩ := hrel
            obtain ⟨hsm5, hk5⟩ := HP5.out
            clear HP5
            by_cases hje : j < en
            · have hje' : (j : Int) < (en : Int) := by omega
              obtain ⟨eb, eo, hep, heb, hec⟩ := hev (by omega)
              subst hep
              have hax : es[j]? = some (es[j]'(by omega)) := List.getElem?_eq_getElem _
              have ce := fun z hz => (World.cell?_of_block (w := wB) (hsm5 eb heb)).trans (hec j _ hax z hz)
              have HAX : Hid _ := hax
              revert ce HAX
              generalize (es[j]'(by omega)) = x
              intro ce HAX
              clear hax
              have x0 : wr.cell? ⟨eb, eo + j * 7, none⟩ = some (.int .i64 x.r) := ce 0 (by decide)
              have x1 : wr.cell? ⟨eb, eo + j * 7 + 1, none⟩ = some (.int .i64 x.k) := ce 1 (by decide)
              have x2 : wr.cell? ⟨eb, eo + j * 7 + 2, none⟩ = some (.int .i64 x.t) := ce 2 (by decide)
              have x3 : wr.cell? ⟨eb, eo + j * 7 + 3, none⟩ = some (.int .i64 x.n) := ce 3 (by decide)
              have x4 : wr.cell? ⟨eb, eo + j * 7 + 4, none⟩ = some (.string x.s) := ce 4 (by decide)
              have x5 : wr.cell? ⟨eb, eo + j * 7 + 5, none⟩ = some (.bool x.b) := ce 5 (by decide)
              have x6 : wr.cell? ⟨eb, eo + j * 7 + 6, none⟩ = some (.int .i64 x.c) := ce 6 (by decide)
              clear ce
              have hitx : (itP (⟨false, t, n1, s, b1, c1, r0, r1, r2, r3, some ⟨eb, eo, none⟩, en, ec⟩, es))[1 + j]? = some (itE x) := by
                unfold itP; simp [HAX.out, Nat.add_comm 1 j]
              have hat := itms_at HQ.out hitx
              have hltk := itms_lt HQ.out hitx
              rw [← Nat.add_assoc, ← hk5] at hat hltk
              have HYr : YieldAt Fence.wide 4 Tryz.prog l #[.agg #[.int .i64 x.t, .int .i64 x.n, .string x.s, .bool x.b, .int .i64 x.c]] (wr.alloc (.cells #[.int .i64 x.r, .int .i64 x.k, .int .i64 x.t, .int .i64 x.n, .string x.s, .bool x.b, .int .i64 x.c] 51)) fun e W' => ∃ Ft', Turn Ft5 Ft' (wr.alloc (.cells #[.int .i64 x.r, .int .i64 x.k, .int .i64 x.t, .int .i64 x.n, .string x.s, .bool x.b, .int .i64 x.c] 51)) W' ∧ ((e = .returned (.bool true) ∧ J (k5 + 1) Ft' W') ∨ (e = .returned (.bool false) ∧ Jx (k5 + 1) Ft' W')) :=
                HY.out (k5) (itE x) Ft5 (wr.alloc (.cells #[.int .i64 x.r, .int .i64 x.k, .int .i64 x.t, .int .i64 x.n, .string x.s, .bool x.b, .int .i64 x.c] 51)) hat (HJ.out _ _ _ _ hJ5 (Keep.of_below (bal _ _) (Nat.le_refl _))) (Nat.le_trans hsz5 (bal _ _).size) (fun b h => Nat.lt_of_lt_of_le (hlt5 b h) (bal _ _).size) hfr5 4
              obtain ⟨fn, tmps, assign, body, hy, hR⟩ := HYr
              have HHY : Hid _ := hk5
              have HSM : Hid _ := hsm5
              have HLT : Hid _ := hltk
              clear hk5 hsm5 hltk hat hitx
              gi_wp2
              refine hR.mono ?_
              rintro e W4 ⟨Ft', ht, (⟨rfl, hJ4⟩ | ⟨rfl, hJx4⟩)⟩
              · gi_wp2
                go_roundw
                case rel =>
                  refine ⟨j + 1, k5 + 1, Ft', by go_num, by omega, hJ4, Nat.le_trans hsz5 (Nat.le_trans (bal _ _).size ht.size), fun b h => (ht.foot b h).2, fun b h => ?_, ?_⟩
                  · rcases (ht.foot b h).1 with h2 | h2
                    · exact hfr5 b h2
                    · exact .inr (by rw [World.size_alloc] at h2; omega)
                  · exact ⟨fun q hq => (keepB ht hfr5 hNF hNW hsz5 q hq).trans (HSM.out q hq), by have := HHY.out; omega⟩
                case measure => simp [intOf]; omega
              · gi_wp2
                refine bodyPost_ret (results_none rfl _ _ _) rfl ?_
                refine ⟨⟨_, rfl⟩, Ft', Nat.le_trans hsz5 (Nat.le_trans (bal _ _).size ht.size), fun b h => (ht.foot b h).2, fun b h => ?_, .inr ⟨k5, HLT.out, hJx4⟩⟩
                rcases (ht.foot b h).1 with h2 | h2
                · exact hfr5 b h2
                · exact .inr (by rw [World.size_alloc] at h2; omega)
            · have hje' : ¬ (j : Int) < (en : Int) := by omega
              have hsn := congrArg List.length (itms_snoc HQ.out)
              have hlp : (itP (⟨false, t, n1, s, b1, c1, r0, r1, r2, r3, ep, en, ec⟩, es)).length = 1 + en := by unfold itP; simp [hle, Nat.add_comm]
              rw [List.length_append, hlp] at hsn
              have HSN : Hid _ := hsn
              have HHY : Hid _ := hk5
              have HSM : Hid _ := hsm5
              clear hsn hlp hk5 hsm5
              gi_wp2
              go_roundw
              case rel => exact ⟨i + 1, k5, Ft5, by go_num, by omega, hJ5, hsz5, hlt5, hfr5, HSM.out, by have h1 := HSN.out; have h2 := HHY.out; omega⟩
              case measure => simp [intOf]; omega
        · gi_wp2
          refine bodyPost_ret (results_none rfl _ _ _) rfl ?_
          refine ⟨⟨_, rfl⟩, Ft3, Nat.le_trans hsz (Nat.le_trans (bal _ _).size ht.size), fun b h => (ht.foot b h).2, fun b h => ?_, .inr ⟨k, HLT.out, hJx3⟩⟩
          rcases (ht.foot b h).1 with h2 | h2
          · exact hfr b h2
          · exact .inr (by rw [World.size_alloc] at h2; omega)
      · have HHK : Hid _ := hk
        have HSM0 : Hid _ := hsm
        clear hk hsm
        have hJ1 := HJ.out _ _ _ _ hJw (Keep.of_below (bal wr (.cells #[.bool true, .int .i64 t, .int .i64 n1, .string s, .bool b1, .int .i64 c1, .int .i64 r0, .int .i64 r1, .int .i64 r2, .int .i64 r3, .slice ep en ec] 40)) (Nat.le_refl _))
        gi_wp2
        refine ⟨fun f h => (by cases h), ?_⟩
        gi_wp2
        gi_loopw [26] (fun vv w5 => ∃ (j k5 : Nat) (Ft5 : Nat → Prop), vv = .int .i64 j ∧ j ≤ en ∧ J k5 Ft5 w5 ∧ W.heap.size ≤ w5.heap.size ∧ (∀ b, Ft5 b → b < w5.heap.size) ∧ (∀ b, Ft5 b → Ft0 b ∨ W.heap.size ≤ b) ∧ Hid ((∀ q, q < wB.heap.size → w5.heap[q]? = wB.heap[q]?) ∧ k5 = (itms (L.take i)).length + 0 + j)) (fun vv _ => en - (intOf vv).toNat)
        case atStart => exact ⟨0, k, Ft, rfl, by omega, hJ1, Nat.le_trans hsz (bal _ _).size, fun b h => Nat.lt_of_lt_of_le (hlt b h) (bal _ _).size, hfr, (show Hid _ from ⟨fun q hq => ((bal wr _).block q (by omega)).trans (HSM0.out q hq), by have := HHK.out; omega⟩)⟩
        case round =>
          obtain ⟨j, k5, Ft5, rfl, hj, hJ5, hsz5, hlt5, hfr5, HP5⟩ := hrel
          obtain ⟨hsm5, hk5⟩ := HP5.out
          clear HP5
          by_cases hje : j < en
          · have hje' : (j : Int) < (en : Int) := by omega
            obtain ⟨eb, eo, hep, heb, hec⟩ := hev (by omega)
            subst hep
            have hax : es[j]? = some (es[j]'(by omega)) := List.getElem?_eq_getElem _
            have ce := fun z hz => (World.cell?_of_block (w := wB) (hsm5 eb heb)).trans (hec j _ hax z hz)
            have HAX : Hid _ := hax
            revert ce HAX
            generalize (es[j]'(by omega)) = x
            intro ce HAX
            clear hax
            have x0 : wr.cell? ⟨eb, eo + j * 7, none⟩ = some (.int .i64 x.r) := ce 0 (by decide)
            have x1 : wr.cell? ⟨eb, eo + j * 7 + 1, none⟩ = some (.int .i64 x.k) := ce 1 (by decide)
            have x2 : wr.cell? ⟨eb, eo + j * 7 + 2, none⟩ = some (.int .i64 x.t) := ce 2 (by decide)
            have x3 : wr.cell? ⟨eb, eo + j * 7 + 3, none⟩ = some (.int .i64 x.n) := ce 3 (by decide)
            have x4 : wr.cell? ⟨eb, eo + j * 7 + 4, none⟩ = some (.string x.s) := ce 4 (by decide)
            have x5 : wr.cell? ⟨eb, eo + j * 7 + 5, none⟩ = some (.bool x.b) := ce 5 (by decide)
            have x6 : wr.cell? ⟨eb, eo + j * 7 + 6, none⟩ = some (.int .i64 x.c) := ce 6 (by decide)
            clear ce
            have hitx : (itP (⟨true, t, n1, s, b1, c1, r0, r1, r2, r3, some ⟨eb, eo, none⟩, en, ec⟩, es))[0 + j]? = some (itE x) := by
              unfold itP; simp [HAX.out]
            have hat := itms_at HQ.out hitx
            have hltk := itms_lt HQ.out hitx
            rw [← Nat.add_assoc, ← hk5] at hat hltk
            have HYr : YieldAt Fence.wide 4 Tryz.prog l #[.agg #[.int .i64 x.t, .int .i64 x.n, .string x.s, .bool x.b, .int .i64 x.c]] (wr.alloc (.cells #[.int .i64 x.r, .int .i64 x.k, .int .i64 x.t, .int .i64 x.n, .string x.s, .bool x.b, .int .i64 x.c] 51)) fun e W' => ∃ Ft', Turn Ft5 Ft' (wr.alloc (.cells #[.int .i64 x.r, .int .i64 x.k, .int .i64 x.t, .int .i64 x.n, .string x.s, .bool x.b, .int .i64 x.c] 51)) W' ∧ ((e = .returned (.bool true) ∧ J (k5 + 1) Ft' W') ∨ (e = .returned (.bool false) ∧ Jx (k5 + 1) Ft' W')) :=
              HY.out (k5) (itE x) Ft5 (wr.alloc (.cells #[.int .i64 x.r, .int .i64 x.k, .int .i64 x.t, .int .i64 x.n, .string x.s, .bool x.b, .int .i64 x.c] 51)) hat (HJ.out _ _ _ _ hJ5 (Keep.of_below (bal _ _) (Nat.le_refl _))) (Nat.le_trans hsz5 (bal _ _).size) (fun b h => Nat.lt_of_lt_of_le (hlt5 b h) (bal _ _).size) hfr5 4
            obtain ⟨fn, tmps, assign, body, hy, hR⟩ := HYr
            have HHY : Hid _ := hk5
            have HSM : Hid _ := hsm5
            have HLT : Hid _ := hltk
            clear hk5 hsm5 hltk hat hitx
            gi_wp2
            refine hR.mono ?_
            rintro e W4 ⟨Ft', ht, (⟨rfl, hJ4⟩ | ⟨rfl, hJx4⟩)⟩
            · gi_wp2
              go_roundw
              case rel =>
                refine ⟨j + 1, k5 + 1, Ft', by go_num, by omega, hJ4, Nat.le_trans hsz5 (Nat.le_trans (bal _ _).size ht.size), fun b h => (ht.foot b h).2, fun b h => ?_, ?_⟩
                · rcases (ht.foot b h).1 with h2 | h2
                  · exact hfr5 b h2
                  · exact .inr (by rw [World.size_alloc] at h2; omega)
                · exact ⟨fun q hq => (keepB ht hfr5 hNF hNW hsz5 q hq).trans (HSM.out q hq), by have := HHY.out; omega⟩
              case measure => simp [intOf]; omega
            · gi_wp2
              refine bodyPost_ret (results_none rfl _ _ _) rfl ?_
              refine ⟨⟨_, rfl⟩, Ft', Nat.le_trans hsz5 (Nat.le_trans (bal _ _).size ht.size), fun b h => (ht.foot b h).2, fun b h => ?_, .inr ⟨k5, HLT.out, hJx4⟩⟩
              rcases (ht.foot b h).1 with h2 | h2
              · exact hfr5 b h2
              · exact .inr (by rw [World.size_alloc] at h2; omega)
          · have hje' : ¬ (j : Int) < (en : Int) := by omega
            have hsn := congrArg List.length (itms_snoc HQ.out)
            have hlp : (itP (⟨true, t, n1, s, b1, c1, r0, r1, r2, r3, ep, en, ec⟩, es)).length = 0 + en := by unfold itP; simp [hle]
            rw [List.length_append, hlp] at hsn
            have HSN : Hid _ := hsn
            have HHY : Hid _ := hk5
            have HSM : Hid _ := hsm5
            clear hsn hlp hk5 hsm5
            gi_wp2
            go_roundw
            case rel => exact ⟨i + 1, k5, Ft5, by go_num, by omega, hJ5, hsz5, hlt5, hfr5, HSM.out, by have h1 := HSN.out; have h2 := HHY.out; omega⟩
            case measure => simp [intOf]; omega
    · have hin' : ¬ (i : Int) < n := by omega
      have hend : k = (itms L).length := by rw [hk, List.take_of_length_le (by rw [HL.out]; omega)]
      have HEN : Hid _ := hend
      clear hend hk hsm
      gi_wp2
      refine bodyPost_end (results_none rfl _ _ _) rfl ?_
      first | exact ⟨⟨_, rfl⟩, Ft, hsz, hlt, hfr, .inl (by rw [← HEN.out]; exact hJw)⟩ | exact ⟨⟨_, rfl⟩, hsz, Ft, hlt, hfr, .inl (by rw [← HEN.out]; exact hJw)⟩
end Go.Proofs.YtcgcnpcimfaecaaGreatDoor
namespace Go.Proofs.YtcgcnpcimfaecaaGreatDoor
open Go.RowKit
set_option linter.all false
theorem own_put {W : World} {b k : Nat} {A : Array Value} {x : Value} (h : Own W b A) (hk : k < A.size) : Own (W.setCell ⟨b, k, none⟩ x) b (A.set k x hk) := by
  refine ⟨by simpa [World.setCell] using h.lt, fun o => ?_, fun o => by rw [World.frozen?_setCell]; exact h.fro o⟩
  by_cases ho : o = k
  · subst ho
    rw [World.cell?_setCell_same' _ _ _ (by rw [h.cell, Array.getElem?_eq_getElem hk]; rfl)]
    simp
  · rw [World.cell?_setCell_other _ _ _ _ (by intro hh; exact ho (by simpa using (congrArg Addr.off hh).symm)), h.cell, Array.getElem?_set]
    rw [if_neg (fun e => ho e.symm)]
theorem infoI64 : (Tryz.prog.info? 2).map (fun i => (i.zero, i.size, i.bytes)) = some (some (.int .i64 0), 1, 8) := by kernel_rfl
end Go.Proofs.YtcgcnpcimfaecaaGreatDoor
