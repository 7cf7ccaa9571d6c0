/- The contract of texts.take: arguments taken for texts and whole numbers, or the first code that comes of it. New memory alone is made. The condition: one to 16 arguments that can be taken for texts. -/
import Derived.Test.YtdcfnfapdceenaaGreatDoorTA
namespace Go.Proofs.YtdcfnfapdceenaaGreatDoor
open Go.RowKit
set_option linter.all false
def aT (a : Ag) : ByteArray := asTxt a.t a.n a.s a.b a.c
def firstN : List Ag → Int
  | [] => 0
  | a :: l => if cdN a = 0 then firstN l else cdN a
theorem firstN_app : ∀ {l m : List Ag}, (∀ a ∈ l, cdN a = 0) → firstN (l ++ m) = firstN m
  | [], _, _ => rfl
  | a :: l, m, h => by
    show (if cdN a = 0 then firstN (l ++ m) else cdN a) = _
    rw [if_pos (h a (List.mem_cons_self ..)), firstN_app (fun x hx => h x (List.mem_cons_of_mem _ hx))]
theorem take_drop_snoc {α : Type} {l : List α} {i k : Nat} {x : α} (h : l[i]? = some x) (hk : k ≤ i) : (l.take (i + 1)).drop k = (l.take i).drop k ++ [x] := by
  have hi := (List.getElem?_eq_some_iff.1 h).1
  rw [List.take_succ, h, Option.toList_some, List.drop_append_of_le_length (by rw [List.length_take]; omega)]
theorem take_take_snoc {α : Type} {l : List α} {i k : Nat} {x : α} (h : l[i]? = some x) (hk : i < k) : (l.take (i + 1)).take k = (l.take i).take k ++ [x] := by
  have hi := (List.getElem?_eq_some_iff.1 h).1
  rw [List.take_take, List.take_take, Nat.min_eq_right (by omega), Nat.min_eq_right (by omega), List.take_succ, h, Option.toList_some]
theorem take_take_same {α : Type} {l : List α} {i k : Nat} (hk : k ≤ i) : (l.take (i + 1)).take k = (l.take i).take k := by
  rw [List.take_take, List.take_take, Nat.min_eq_left (by omega), Nat.min_eq_left (by omega)]
theorem take_drop_none {α : Type} {l : List α} {i k : Nat} (hk : i ≤ k) : (l.take i).drop k = [] := by
  rw [List.drop_eq_nil_iff, List.length_take]; omega
theorem firstN_at {l : List Ag} {i k : Nat} {x : Ag} (h : l[i]? = some x) (hk : k ≤ i) (h1 : ∀ a ∈ (l.take i).drop k, cdN a = 0) (h2 : ¬ cdN x = 0) : firstN (l.drop k) = cdN x := by
  have e : l.drop k = (l.take i).drop k ++ x :: l.drop (i + 1) := by
    obtain ⟨hi, rfl⟩ := List.getElem?_eq_some_iff.1 h
    rw [List.getElem_cons_drop, ← List.drop_append_of_le_length (by rw [List.length_take]; omega), List.take_append_drop]
  rw [e, firstN_app h1]
  exact if_neg h2
theorem firstN_all {l : List Ag} {i k : Nat} (h : l.length ≤ i) (h1 : ∀ a ∈ (l.take i).drop k, cdN a = 0) : firstN (l.drop k) = 0 := by
  rw [List.take_of_length_le h] at h1
  have := firstN_app (m := []) h1
  rwa [List.append_nil] at this
/-- Where take stands: the call's block, its rows, what else it made. -/
structure TS (w w' : World) (vt vn : Value) (lt : List ByteArray) (ln : List Int) (B : Array Value) : Prop where
  bel : Below w.heap.size w w'
  box : Own w' w.heap.size B
  res : Own w' (w.heap.size + 1) #[.slice none 0 0, .slice none 0 0, .int .i64 0]
  own : Own w' (w.heap.size + 1 + 1) #[vt, vn, .int .i64 0]
  rt : SRow w' vt lt
  rn : IRow w' vn ln
  ht : ∀ g, vt.ownBlock = some g → w.heap.size + 3 ≤ g
  hn : ∀ g, vn.ownBlock = some g → w.heap.size + 3 ≤ g
  ne : ∀ g, vt.ownBlock = some g → vn.ownBlock ≠ some g
theorem TS.below {w W W' : World} {vt vn : Value} {lt : List ByteArray} {ln : List Int} {B : Array Value} (h : TS w W vt vn lt ln B) (hb : Below W.heap.size W W') : TS w W' vt vn lt ln B :=
  ⟨bup h.bel hb, h.box.keep hb, h.res.keep hb, h.own.keep hb, Row.keep h.rt hb, Row.keep h.rn hb, h.ht, h.hn, h.ne⟩
theorem TS.putT {w W w' : World} {vt vt' vn : Value} {lt lt' : List ByteArray} {ln : List Int} {B : Array Value} (h : TS w W vt vn lt ln B) (o : Own w' (w.heap.size + 1 + 1) #[vt', vn, .int .i64 0]) (r : SRow w' vt' lt') (m : Mut (fun b => b = w.heap.size + 1 + 1 ∨ vt.ownBlock = some b) W w') (hat : ∀ b, vt'.ownBlock = some b → vt.ownBlock = some b ∨ W.heap.size ≤ b) : TS w w' vt' vn lt' ln B := by
  have hl := h.own.lt
  have hs := h.bel.size
  refine ⟨Below.ofMut h.bel m hs (fun b hb => ?_), h.box.mut m (fun q => ?_), h.res.mut m (fun q => ?_), o, r, Row.mut h.rn m (fun g hg q => ?_), fun g hg => ?_, h.hn, fun g hg q => ?_⟩
  · rcases hb with e | e
    · omega
    · have := h.ht _ e; omega
  · rcases q with e | e
    · omega
    · have := h.ht _ e; omega
  · rcases q with e | e
    · omega
    · have := h.ht _ e; omega
  · rcases q with e | e
    · have := h.hn _ hg; omega
    · exact h.ne _ e hg
  · rcases hat g hg with e | e
    · exact h.ht _ e
    · omega
  · rcases hat g hg with e | e
    · exact h.ne _ e q
    · have := (Row.lt h.rn g q).2; omega
theorem TS.putN {w W w' : World} {vt vn vn' : Value} {lt : List ByteArray} {ln ln' : List Int} {B : Array Value} (h : TS w W vt vn lt ln B) (o : Own w' (w.heap.size + 1 + 1) #[vt, vn', .int .i64 0]) (r : IRow w' vn' ln') (m : Mut (fun b => b = w.heap.size + 1 + 1 ∨ vn.ownBlock = some b) W w') (hat : ∀ b, vn'.ownBlock = some b → vn.ownBlock = some b ∨ W.heap.size ≤ b) : TS w w' vt vn' lt ln' B := by
  have hl := h.own.lt
  have hs := h.bel.size
  refine ⟨Below.ofMut h.bel m hs (fun b hb => ?_), h.box.mut m (fun q => ?_), h.res.mut m (fun q => ?_), o, Row.mut h.rt m (fun g hg q => ?_), r, h.ht, fun g hg => ?_, fun g hg q => ?_⟩
  · rcases hb with e | e
    · omega
    · have := h.hn _ e; omega
  · rcases q with e | e
    · omega
    · have := h.hn _ e; omega
  · rcases q with e | e
    · omega
    · have := h.hn _ e; omega
  · rcases q with e | e
    · have := h.ht _ hg; omega
    · exact h.ne _ hg e
  · rcases hat g hg with e | e
    · exact h.hn _ e
    · omega
  · rcases hat g q with e | e
    · exact h.ne _ hg e
    · have := (Row.lt h.rt g hg).2; omega
set_option maxRecDepth 100000 in
set_option maxHeartbeats 4000000 in
theorem take_y (w : World) (b o c n : Nat) (l : List Ag) (hla : b < w.heap.size) (HA : ∀ i x, l[i]? = some x → ∀ j, j < 11 → w.cell? ⟨b, o + i * 11 + j, none⟩ = (Ag.cells x)[j]?) (hn : l.length = n) (hc : n ≤ c) (h0 : 0 < n) (hl : n ≤ 9223372036854775807) (hN : Hid (Nums l)) (h16 : n ≤ 16) (lo hi : Int) (tx : Nat) (fv : Value) (htx : tx ≤ 16) (HP : Hid (Pow w)) (hcT : Hid (∀ a ∈ l, asCodeT a.t a.n a.s a.b a.c = 0)) :
    Calls Tryz.prog 25 #[.agg #[.int .i64 lo, .int .i64 hi, .int .i64 (tx : Int), fv], .slice (some ⟨b, o, none⟩) n c] w fun e w' => ((firstN (l.drop tx) = 0 ∧ ∃ vt vn, e = .returned (.tuple #[.agg #[vt, vn, .int .i64 0], .int .i64 0]) ∧ SRow w' vt ((l.take tx).map aT) ∧ IRow w' vn ((l.drop tx).map aI)) ∨ (¬ firstN (l.drop tx) = 0 ∧ e = .returned (.tuple #[.agg #[.slice none 0 0, .slice none 0 0, .int .i64 0], .int .i64 (firstN (l.drop tx))]))) ∧ Below w.heap.size w w' := by
  have mixed : Tryz.prog.follows .mixedOrders = true := by kernel_rfl
  have HA' : Hid _ := HA
  have HL : Hid (l.length = n) := hn
  clear HA hn
  go_enter Tryz.func25, Tryz.ntmps25
  go_wp2
  go_loopw [12] (fun v w' => ∃ i : Nat, v = .int .i64 i ∧ i ≤ n ∧ Hid (∀ a ∈ (l.take i).drop tx, cdN a = 0) ∧ ∃ vt vn, Hid (TS w w' vt vn (((l.take i).take tx).map aT) (((l.take i).drop tx).map aI) #[.int .i64 lo, .int .i64 hi, .int .i64 (tx : Int), fv])) (fun v _ => n - (intOf v).toNat)
  case atStart =>
    refine ⟨0, rfl, by omega, (show Hid _ from fun a ha => by simp at ha), .slice none 0 0, .slice none 0 0, ?_⟩
    exact ⟨by with_reducible (repeat' first | assumption | exact Below.refl _ _ | refine Below.drew ?_ | refine bdrewN ?_ _ | refine Below.setCell ?_ (by first | exact Nat.le_refl _ | (simp; done) | (simp; omega) | omega) _ | refine Below.alloc ?_ (by first | exact Nat.le_refl _ | (simp; done) | (simp; omega) | omega) _), by with_reducible (repeat' first | assumption | refine Own.drew ?_ | refine Own.drewN ?_ _ | (refine Own.at ?_; first | rfl | (simp; done)) | refine Own.past ?_ _), by with_reducible (repeat' first | assumption | refine Own.drew ?_ | refine Own.drewN ?_ _ | (refine Own.at ?_; first | rfl | (simp; done)) | refine Own.past ?_ _), by with_reducible (repeat' first | assumption | refine Own.drew ?_ | refine Own.drewN ?_ _ | (refine Own.at ?_; first | rfl | (simp; done)) | refine Own.past ?_ _), by simp only [List.take_zero, List.take_nil, List.map_nil]; exact Row.nil _ _, by simp only [List.take_zero, List.drop_nil, List.map_nil]; exact Row.nil _ _, fun g h => (by cases h), fun g h => (by cases h), fun g h => (by cases h)⟩
  case round =>
    obtain ⟨i, rfl, hii, htk, vt, vn, hT⟩ := hrel
    have hB3 := hT.out.bel
    have z3 := hB3.size
    have ob := hT.out.box
    have cb := ob.cell
    have lb := ob.lt
    have lo' := hT.out.own.lt
    by_cases hlt : i < n
    · have hlt' : (i : Int) < n := by omega
      have hai : l[i]? = some (l[i]'(by rw [HL.out]; exact hlt)) := List.getElem?_eq_getElem _
      have ca' := fun j hj => (show w.cell? ⟨b, o + i * 11 + j, none⟩ = _ from HA'.out i _ hai j hj)
      have hin : I64 (l[i]'(by rw [HL.out]; exact hlt)).n := hN.out _ (List.getElem_mem _)
      have HAi : Hid _ := hai
      revert ca' HAi hin
      generalize (l[i]'(by rw [HL.out]; exact hlt)) = x
      intro ca' hin HAi
      clear hai
      have y0 : w.cell? ⟨b, o + i * 11, none⟩ = some (.bool x.many) := ca' 0 (by decide)
      have y1 : w.cell? ⟨b, o + i * 11 + 1, none⟩ = some (.int .i64 x.t) := ca' 1 (by decide)
      have y2 : w.cell? ⟨b, o + i * 11 + 2, none⟩ = some (.int .i64 x.n) := ca' 2 (by decide)
      have y3 : w.cell? ⟨b, o + i * 11 + 3, none⟩ = some (.string x.s) := ca' 3 (by decide)
      have y4 : w.cell? ⟨b, o + i * 11 + 4, none⟩ = some (.bool x.b) := ca' 4 (by decide)
      have y5 : w.cell? ⟨b, o + i * 11 + 5, none⟩ = some (.int .i64 x.c) := ca' 5 (by decide)
      have y6 : w.cell? ⟨b, o + i * 11 + 6, none⟩ = some (.int .i64 x.r0) := ca' 6 (by decide)
      have y7 : w.cell? ⟨b, o + i * 11 + 7, none⟩ = some (.int .i64 x.r1) := ca' 7 (by decide)
      have y8 : w.cell? ⟨b, o + i * 11 + 8, none⟩ = some (.int .i64 x.r2) := ca' 8 (by decide)
      have y9 : w.cell? ⟨b, o + i * 11 + 9, none⟩ = some (.int .i64 x.r3) := ca' 9 (by decide)
      have y10 : w.cell? ⟨b, o + i * 11 + 10, none⟩ = some (.slice x.ep x.en x.ec) := ca' 10 (by decide)
      clear ca'
      have x0 := (hB3.cell (p := ⟨b, o + i * 11, none⟩) hla).trans y0
      have x1 := (hB3.cell (p := ⟨b, o + i * 11 + 1, none⟩) hla).trans y1
      have x2 := (hB3.cell (p := ⟨b, o + i * 11 + 2, none⟩) hla).trans y2
      have x3 := (hB3.cell (p := ⟨b, o + i * 11 + 3, none⟩) hla).trans y3
      have x4 := (hB3.cell (p := ⟨b, o + i * 11 + 4, none⟩) hla).trans y4
      have x5 := (hB3.cell (p := ⟨b, o + i * 11 + 5, none⟩) hla).trans y5
      have x6 := (hB3.cell (p := ⟨b, o + i * 11 + 6, none⟩) hla).trans y6
      have x7 := (hB3.cell (p := ⟨b, o + i * 11 + 7, none⟩) hla).trans y7
      have x8 := (hB3.cell (p := ⟨b, o + i * 11 + 8, none⟩) hla).trans y8
      have x9 := (hB3.cell (p := ⟨b, o + i * 11 + 9, none⟩) hla).trans y9
      have x10 := (hB3.cell (p := ⟨b, o + i * 11 + 10, none⟩) hla).trans y10
      clear y0 y1 y2 y3 y4 y5 y6 y7 y8 y9 y10
      by_cases ht : i < tx
      · have ht' : (i : Int) < (tx : Int) := by omega
        go_wp2_with (go_at_call 46; have hT1 : TS w (wr.alloc (.cells #[.bool x.many, .int .i64 x.t, .int .i64 x.n, .string x.s, .bool x.b, .int .i64 x.c, .int .i64 x.r0, .int .i64 x.r1, .int .i64 x.r2, .int .i64 x.r3, .slice x.ep x.en x.ec] 38)) vt vn _ _ #[.int .i64 lo, .int .i64 hi, .int .i64 (tx : Int), fv] := TS.below hT.out (bal _ _); refine (addt_ok _ _ _ _ _ _ x hin ((HP.out).up hT1.bel) (hcT.out _ (List.mem_of_getElem? HAi.out)) hT1.own (by rw [List.length_map, List.length_take, List.length_take]; omega) (fun g hg => by have := hT1.ht g hg; omega) hT1.rt).mono ?_; rintro e w1 ⟨vt', rfl, o1, r1, m1, a1⟩; have hT2 := TS.putT hT1 o1 r1 m1 a1; have HT2 : Hid _ := hT2; have hB2 := hT2.bel; have z2 := hB2.size; clear hT2 hT1 o1 r1 m1 a1)
        refine ⟨⟨i + 1, by go_num, by omega, ?_, vt', vn, ?_⟩, by simp [intOf]; omega⟩
        · rw [take_drop_none (by omega)]; exact (show Hid _ from fun a ha => by simp at ha)
        · rw [take_take_snoc HAi.out ht, List.map_append, take_drop_none (by omega)]
          have q := HT2.out
          rw [take_drop_none (show i ≤ tx by omega)] at q
          exact q
      · have ht' : ¬ (i : Int) < (tx : Int) := by omega
        by_cases hcd : cdN x = 0
        · have HC : Hid (cdN x = 0) := hcd
          have hgw : gwN x = aI x := by unfold gwN; rw [if_pos hcd]
          clear hcd
          go_wp2_with (go_at_call 47; have hT1 : TS w (wr.alloc (.cells #[.bool x.many, .int .i64 x.t, .int .i64 x.n, .string x.s, .bool x.b, .int .i64 x.c, .int .i64 x.r0, .int .i64 x.r1, .int .i64 x.r2, .int .i64 x.r3, .slice x.ep x.en x.ec] 38)) vt vn _ _ #[.int .i64 lo, .int .i64 hi, .int .i64 (tx : Int), fv] := TS.below hT.out (bal _ _); refine (addn_any _ _ _ _ _ _ x hin hT1.own (by rw [List.length_map, List.length_drop]; have h8 := List.length_take_le i l; omega) (fun g hg => by have := hT1.hn g hg; omega) hT1.rn).mono ?_; rintro e w1 ⟨vn', rfl, o1, r1, m1, a1⟩; have hT2 := TS.putN hT1 o1 r1 m1 a1; have HT2 : Hid _ := hT2; have hB2 := hT2.bel; have z2 := hB2.size; clear hT2 hT1 o1 r1 m1 a1; rw [HC.out]; rw [hgw] at HT2)
          refine ⟨⟨i + 1, by go_num, by omega, ?_, vt, vn', ?_⟩, by simp [intOf]; omega⟩
          · rw [take_drop_snoc HAi.out (by omega)]
            refine (show Hid _ from fun a ha => ?_)
            rcases List.mem_append.1 ha with q | q
            · exact htk.out a q
            · simp at q; rw [q]; exact HC.out
          · rw [take_take_same (by omega), take_drop_snoc HAi.out (by omega), List.map_append]
            exact HT2
        · have HC : Hid (¬ cdN x = 0) := hcd
          have hq : (cdN x != 0) = true := by simpa using hcd
          clear hcd
          go_wp2_with (go_at_call 47; have hT1 : TS w (wr.alloc (.cells #[.bool x.many, .int .i64 x.t, .int .i64 x.n, .string x.s, .bool x.b, .int .i64 x.c, .int .i64 x.r0, .int .i64 x.r1, .int .i64 x.r2, .int .i64 x.r3, .slice x.ep x.en x.ec] 38)) vt vn _ _ #[.int .i64 lo, .int .i64 hi, .int .i64 (tx : Int), fv] := TS.below hT.out (bal _ _); refine (addn_any _ _ _ _ _ _ x hin hT1.own (by rw [List.length_map, List.length_drop]; have h8 := List.length_take_le i l; omega) (fun g hg => by have := hT1.hn g hg; omega) hT1.rn).mono ?_; rintro e w1 ⟨vn', rfl, o1, r1, m1, a1⟩; have hT2 := TS.putN hT1 o1 r1 m1 a1; have HT2 : Hid _ := hT2; have hB2 := hT2.bel; have z2 := hB2.size; clear hT2 hT1 o1 r1 m1 a1; have o1 := HT2.out.res; have c1 := o1.cell; have f1 := o1.fro; have l1 := o1.lt; clear o1)
          have hR := firstN_at HAi.out (by omega) htk.out HC.out
          exact bodyPost_ret (v := .tuple #[.agg #[.slice none 0 0, .slice none 0 0, .int .i64 0], .int .i64 (cdN x)]) (by simp [results, Tryz.results25, go_sem, c1, f1, l1]) rfl ⟨.inr ⟨by rw [hR]; exact HC.out, by rw [hR]⟩, by with_reducible (repeat' first | assumption | exact Below.refl _ _ | refine Below.drew ?_ | refine bdrewN ?_ _ | refine Below.setCell ?_ (by first | exact Nat.le_refl _ | (simp; done) | (simp; omega) | omega) _ | refine Below.alloc ?_ (by first | exact Nat.le_refl _ | (simp; done) | (simp; omega) | omega) _)⟩
    · have hlt' : ¬ (i : Int) < n := by omega
      have hin : i = n := by omega
      subst hin
      have hil : l.take i = l := List.take_of_length_le (by rw [HL.out]; omega)
      rw [hil] at hT
      obtain ⟨tp, tc, rfl, _, _⟩ := Row.slice hT.out.rt
      obtain ⟨np, nc, rfl, _, _⟩ := Row.slice hT.out.rn
      have oR := hT.out.own
      have cR := oR.cell
      have fR := oR.fro
      have oS := hT.out.res
      have cS := oS.cell
      have fS := oS.fro
      have lS := oS.lt
      go_wp2
      have hrt := hT.out.rt
      have hrn := hT.out.rn
      refine bodyPost_ret (v := .tuple #[.agg #[.slice tp ((l.take tx).map aT).length tc, .slice np ((l.drop tx).map aI).length nc, .int .i64 0], .int .i64 0]) (by simp [results, Tryz.results25, go_sem, cS, fS, lS]) rfl ⟨.inl ⟨firstN_all (by rw [HL.out]; omega) htk.out, _, _, rfl, ?_, ?_⟩, by with_reducible (repeat' first | assumption | exact Below.refl _ _ | refine Below.drew ?_ | refine bdrewN ?_ _ | refine Below.setCell ?_ (by first | exact Nat.le_refl _ | (simp; done) | (simp; omega) | omega) _ | refine Below.alloc ?_ (by first | exact Nat.le_refl _ | (simp; done) | (simp; omega) | omega) _)⟩
      · repeat refine Row.aside ?_ _ (fun g hg => by have := hT.out.ht g hg; simp; omega)
        rw [← List.map_take]; exact hrt
      · repeat refine Row.aside ?_ _ (fun g hg => by have := hT.out.hn g hg; simp; omega)
        rw [← List.map_drop]; exact hrn
end Go.Proofs.YtdcfnfapdceenaaGreatDoor
