/- The contract of the document's part at an operation, in the words of the program's. New memory alone is made. The conditions: at most two things, none deeper than 4096. -/
import Derived.Test.YtekpmdpmcbjkkaaDoorS5
namespace Go.Proofs.YtekpmdpmcbjkkaaDoor
open Go.Shelf Go.RowKit
set_option linter.all false
set_option maxRecDepth 100000 in
set_option maxHeartbeats 4000000 in
theorem part_4y (tag : Int) (num : Int) (str : ByteArray) (is : Bool) (code : Int) (row : Int) (col : Int) (top : Int) (left : Int) (bot : Int) (right : Int) (op : Int) (name : ByteArray) (args : Int) (w : World) (b o cap n : Nat) (l : List Th) (hlb : b < w.heap.size) (HC : ∀ i t, l[i]? = some t → ∀ j, j < 3 → w.cell? ⟨b, o + i * 3 + j, none⟩ = (Th.pcells t)[j]?)
    (hn : l.length = n) (hcap : n ≤ cap) (h0 : 0 < n) (hl : n ≤ 1024) (hdp : ∀ t ∈ l, t.dep ≤ 4096) (hl2 : n ≤ 2) (ho1 : 1 ≤ op) (ho2 : op ≤ 13) :
    Calls Tryd.prog 26 #[.agg #[.int .i64 4, .int .i64 tag, .int .i64 num, .string str, .bool is, .int .i64 code, .int .i64 row, .int .i64 col, .int .i64 top, .int .i64 left, .int .i64 bot, .int .i64 right, .int .i64 op, .string name, .int .i64 args], .slice (some ⟨b, o, none⟩) n cap] w fun e w' => e = .returned (ptOut (workN ⟨4, tag, num, str, is, code, row, col, top, left, bot, right, op, name, args⟩ l)) ∧ Below w.heap.size w w' := by
  have mixed : Tryd.prog.follows .mixedOrders = true := by kernel_rfl
  have HC' : Hid _ := HC
  have HN : Hid (l.length = n) := hn
  have HDP : Hid _ := hdp
  clear HC hn hdp
  have hlv := levI_is op
  have HLV : Hid (∀ w, Calls Tryd.prog 37 #[.int .i64 op] w fun e w' => e = .returned (.int .i64 (levI op)) ∧ Below w.heap.size w w') := fun w => rlevel_any op w ho1 ho2
  go_enter Tryd.func26, Tryd.ntmps26
  go_wp2_with (go_at_call 37; refine (HLV.out _).mono ?_; rintro e w1 ⟨rfl, hb⟩; have hB : Below w.heap.size w w1 := bup (by with_reducible (repeat' first | assumption | exact Below.refl _ _ | refine Below.drew ?_ | refine bdrewN ?_ _ | refine Below.setCell ?_ (by first | exact Nat.le_refl _ | (simp; done) | (simp; omega) | omega) _ | refine Below.alloc ?_ (by first | exact Nat.le_refl _ | (simp; done) | (simp; omega) | omega) _)) hb; have o0 : Own w1 (w.heap.size) #[.int .i64 4, .int .i64 tag, .int .i64 num, .string str, .bool is, .int .i64 code, .int .i64 row, .int .i64 col, .int .i64 top, .int .i64 left, .int .i64 bot, .int .i64 right, .int .i64 op, .string name, .int .i64 args] := Own.keep (by with_reducible (repeat' first | assumption | refine Own.drew ?_ | refine Own.drewN ?_ _ | (refine Own.at ?_; first | rfl | (simp; done)) | refine Own.past ?_ _ | refine Own.aside ?_ (by first | (simp; done) | (simp; omega) | omega) _)) hb; have c0 := o0.cell; have f0 := o0.fro; have l0 := o0.lt; have o1 : Own w1 (w.heap.size + 1) #[.int .i64 0, .int .i64 0, .bool false] := Own.keep (by with_reducible (repeat' first | assumption | refine Own.drew ?_ | refine Own.drewN ?_ _ | (refine Own.at ?_; first | rfl | (simp; done)) | refine Own.past ?_ _ | refine Own.aside ?_ (by first | (simp; done) | (simp; omega) | omega) _)) hb; have c1 := o1.cell; have f1 := o1.fro; have l1 := o1.lt)
  obtain ⟨B, hBB⟩ : ∃ B, w1.heap.size = B := ⟨_, rfl⟩
  have hzB : w.heap.size + 2 ≤ B := by omega
  have oB : Own (w1.alloc (.cells #[.int .i64 ((0 : Nat) : Int), .int .i64 (levI op), .bool false] 58)) B #[.int .i64 ((0 : Nat) : Int), .int .i64 (levI op), .bool false] := by rw [← hBB]; exact Own.new _ _ _
  rw [hBB]
  go_loopw [9] (fun v w' => ∃ i d : Nat, v = .int .i64 i ∧ i ≤ n ∧ d ≤ 5000 ∧ Hid (d = maxD op true 0 (l.take i) 0) ∧ Hid ((l.take i).any (·.many) = false) ∧ Below w.heap.size w w' ∧ Own w' w.heap.size #[.int .i64 4, .int .i64 tag, .int .i64 num, .string str, .bool is, .int .i64 code, .int .i64 row, .int .i64 col, .int .i64 top, .int .i64 left, .int .i64 bot, .int .i64 right, .int .i64 op, .string name, .int .i64 args] ∧ Own w' (w.heap.size + 1) #[.int .i64 0, .int .i64 0, .bool false] ∧ Own w' B #[.int .i64 (d : Nat), .int .i64 (levI op), .bool false]) (fun v _ => n - (intOf v).toNat)
  case atStart => exact ⟨0, 0, rfl, by omega, by omega, rfl, rfl, by with_reducible (repeat' first | assumption | exact Below.refl _ _ | refine Below.drew ?_ | refine bdrewN ?_ _ | refine Below.setCell ?_ (by first | exact Nat.le_refl _ | (simp; done) | (simp; omega) | omega) _ | refine Below.alloc ?_ (by first | exact Nat.le_refl _ | (simp; done) | (simp; omega) | omega) _), by with_reducible (repeat' first | assumption | refine Own.drew ?_ | refine Own.drewN ?_ _ | (refine Own.at ?_; first | rfl | (simp; done)) | refine Own.past ?_ _ | refine Own.aside ?_ (by first | (simp; done) | (simp; omega) | omega) _), by with_reducible (repeat' first | assumption | refine Own.drew ?_ | refine Own.drewN ?_ _ | (refine Own.at ?_; first | rfl | (simp; done)) | refine Own.past ?_ _ | refine Own.aside ?_ (by first | (simp; done) | (simp; omega) | omega) _), oB⟩
  case round =>
    clear oB
    obtain ⟨i, d, rfl, hi, hd, hD, hany, hB, o0, o1, o2⟩ := hrel
    have c0 := o0.cell
    have c1 := o1.cell
    have c2 := o2.cell
    have l0 := o0.lt
    have l1 := o1.lt
    have l2 := o2.lt
    have f1 := o1.fro
    have f2 := o2.fro
    have z := hB.size
    by_cases hlt : i < n
    · have hlt' : (i : Int) < n := by omega
      have hti : l[i]? = some (l[i]'(by rw [HN.out]; exact hlt)) := List.getElem?_eq_getElem _
      have hdt := HDP.out _ (List.mem_of_getElem? hti)
      have cx := fun j hj => (show wr.cell? ⟨b, o + i * 3 + j, none⟩ = _ from (hB.cell (p := ⟨b, o + i * 3 + j, none⟩) hlb).trans (HC'.out i _ hti j hj))
      have HT : Hid _ := hti
      revert cx HT hdt
      generalize (l[i]'(by rw [HN.out]; exact hlt)) = t
      intro hdt cx HT
      clear hti
      have x0 : wr.cell? ⟨b, o + i * 3, none⟩ = some (Value.int .i64 t.dep) := cx 0 (by decide)
      have x1 : wr.cell? ⟨b, o + i * 3 + 1, none⟩ = some (Value.int .i64 t.lev) := cx 1 (by decide)
      have x2 : wr.cell? ⟨b, o + i * 3 + 2, none⟩ = some (Value.bool t.many) := cx 2 (by decide)
      clear cx
      cases hm : t.many
      · have HA : Hid ((l.take (i + 1)).any (·.many) = false) := any_next HT.out hany.out hm
        have HS : Hid (max d (bump op true i t) = maxD op true 0 (l.take (i + 1)) 0) := by show _ = _; rw [maxD_next op true HT.out, hD.out]
        have HW : Hid (∀ w, Calls Tryd.prog 38 #[.agg #[.int .i64 t.dep, .int .i64 t.lev, .bool false], .int .i64 (levI op + (i : Int))] w fun e w' => e = .returned (.int .i64 (bump op true i t : Nat)) ∧ Below w.heap.size w w') := fun w => by
          have hh := within_at op i t w (by omega) (by omega)
          rwa [hm] at hh
        have hbm : bump op true i t ≤ t.dep + 1 := by unfold bump; split <;> omega
        have hbm0 : 0 ≤ bump op true i t := Nat.zero_le _
        revert HS HW hbm hbm0
        generalize bump op true i t = q
        intro HS HW hbm hbm0
        have H0 : Hid _ := x0
        have H1 : Hid _ := x1
        rw [hm] at x2
        have H2 : Hid _ := x2
        have hi0 : (0 : Int) ≤ (i : Int) := Int.natCast_nonneg _
        have hwr : IntKind.i64.wrap (levI op + (i : Int)) = levI op + (i : Int) := by rw [IntKind.wrap_i64]; omega
        clear hm
        by_cases hg : d < q
        · have hg' : (d : Int) < (q : Int) := by omega
          rw [Nat.max_eq_right (by omega)] at HS
          go_wp2_with fail
          go_region_held3 (fun w' => w'.cell? ⟨b, o + i * 3, none⟩ = some (.int .i64 t.dep) ∧ w'.cell? ⟨b, o + i * 3 + 1, none⟩ = some (.int .i64 t.lev) ∧ w'.cell? ⟨b, o + i * 3 + 2, none⟩ = some (.bool false) ∧ w'.cell? ⟨B, 1, none⟩ = some (.int .i64 (levI op))) ((repeat' apply And.intro) <;> (first | (go_keep; done) | (go_simp; done))) ((go_at_call 38; refine Calls.mono (HW.out _) ?_; rintro e w2 ⟨rfl, hb2⟩; have hB2 : Below w.heap.size w w2 := bup (by with_reducible (repeat' first | assumption | exact Below.refl _ _ | refine Below.drew ?_ | refine bdrewN ?_ _ | refine Below.setCell ?_ (by first | exact Nat.le_refl _ | (simp; done) | (simp; omega) | omega) _ | refine Below.alloc ?_ (by first | exact Nat.le_refl _ | (simp; done) | (simp; omega) | omega) _)) hb2; have p0 : Own w2 w.heap.size #[.int .i64 4, .int .i64 tag, .int .i64 num, .string str, .bool is, .int .i64 code, .int .i64 row, .int .i64 col, .int .i64 top, .int .i64 left, .int .i64 bot, .int .i64 right, .int .i64 op, .string name, .int .i64 args] := Own.keep (by with_reducible (repeat' first | assumption | refine Own.drew ?_ | refine Own.drewN ?_ _ | (refine Own.at ?_; first | rfl | (simp; done)) | refine Own.past ?_ _ | refine Own.aside ?_ (by first | (simp; done) | (simp; omega) | omega) _)) hb2; have p1 : Own w2 (w.heap.size + 1) #[.int .i64 0, .int .i64 0, .bool false] := Own.keep (by with_reducible (repeat' first | assumption | refine Own.drew ?_ | refine Own.drewN ?_ _ | (refine Own.at ?_; first | rfl | (simp; done)) | refine Own.past ?_ _ | refine Own.aside ?_ (by first | (simp; done) | (simp; omega) | omega) _)) hb2; have p2 : Own w2 B #[.int .i64 (d : Nat), .int .i64 (levI op), .bool false] := Own.keep (by with_reducible (repeat' first | assumption | refine Own.drew ?_ | refine Own.drewN ?_ _ | (refine Own.at ?_; first | rfl | (simp; done)) | refine Own.past ?_ _ | refine Own.aside ?_ (by first | (simp; done) | (simp; omega) | omega) _)) hb2; have cp0 := p0.cell; have cp1 := p1.cell; have cp2 := p2.cell; have lp0 := p0.lt; have lp1 := p1.lt; have lp2 := p2.lt; have fp1 := p1.fro; have fp2 := p2.fro; have zp := hB2.size; have k0 := ((hB2.cell (p := ⟨b, o + i * 3, none⟩) hlb).trans (hB.cell (p := ⟨b, o + i * 3, none⟩) hlb).symm).trans H0.out; have k1 := ((hB2.cell (p := ⟨b, o + i * 3 + 1, none⟩) hlb).trans (hB.cell (p := ⟨b, o + i * 3 + 1, none⟩) hlb).symm).trans H1.out; have k2 := ((hB2.cell (p := ⟨b, o + i * 3 + 2, none⟩) hlb).trans (hB.cell (p := ⟨b, o + i * 3 + 2, none⟩) hlb).symm).trans H2.out))
          go_wp2
          exact ⟨⟨i + 1, q, by go_num, by omega, by omega, HS, HA, by with_reducible (repeat' first | assumption | exact Below.refl _ _ | refine Below.drew ?_ | refine bdrewN ?_ _ | refine Below.setCell ?_ (by first | exact Nat.le_refl _ | (simp; done) | (simp; omega) | omega) _ | refine Below.alloc ?_ (by first | exact Nat.le_refl _ | (simp; done) | (simp; omega) | omega) _), by with_reducible (repeat' first | assumption | refine Own.drew ?_ | refine Own.drewN ?_ _ | (refine Own.at ?_; first | rfl | (simp; done)) | refine Own.past ?_ _ | refine Own.aside ?_ (by first | (simp; done) | (simp; omega) | omega) _), by with_reducible (repeat' first | assumption | refine Own.drew ?_ | refine Own.drewN ?_ _ | (refine Own.at ?_; first | rfl | (simp; done)) | refine Own.past ?_ _ | refine Own.aside ?_ (by first | (simp; done) | (simp; omega) | omega) _), by first | exact own_first p2 | exact own_first (Own.drew p2)⟩, by simp [intOf]; omega⟩
        · have hg' : ¬ (d : Int) < (q : Int) := by omega
          rw [Nat.max_eq_left (by omega)] at HS
          go_wp2_with fail
          go_region_held3 (fun w' => w'.cell? ⟨b, o + i * 3, none⟩ = some (.int .i64 t.dep) ∧ w'.cell? ⟨b, o + i * 3 + 1, none⟩ = some (.int .i64 t.lev) ∧ w'.cell? ⟨b, o + i * 3 + 2, none⟩ = some (.bool false) ∧ w'.cell? ⟨B, 1, none⟩ = some (.int .i64 (levI op))) ((repeat' apply And.intro) <;> (first | (go_keep; done) | (go_simp; done))) ((go_at_call 38; refine Calls.mono (HW.out _) ?_; rintro e w2 ⟨rfl, hb2⟩; have hB2 : Below w.heap.size w w2 := bup (by with_reducible (repeat' first | assumption | exact Below.refl _ _ | refine Below.drew ?_ | refine bdrewN ?_ _ | refine Below.setCell ?_ (by first | exact Nat.le_refl _ | (simp; done) | (simp; omega) | omega) _ | refine Below.alloc ?_ (by first | exact Nat.le_refl _ | (simp; done) | (simp; omega) | omega) _)) hb2; have p0 : Own w2 w.heap.size #[.int .i64 4, .int .i64 tag, .int .i64 num, .string str, .bool is, .int .i64 code, .int .i64 row, .int .i64 col, .int .i64 top, .int .i64 left, .int .i64 bot, .int .i64 right, .int .i64 op, .string name, .int .i64 args] := Own.keep (by with_reducible (repeat' first | assumption | refine Own.drew ?_ | refine Own.drewN ?_ _ | (refine Own.at ?_; first | rfl | (simp; done)) | refine Own.past ?_ _ | refine Own.aside ?_ (by first | (simp; done) | (simp; omega) | omega) _)) hb2; have p1 : Own w2 (w.heap.size + 1) #[.int .i64 0, .int .i64 0, .bool false] := Own.keep (by with_reducible (repeat' first | assumption | refine Own.drew ?_ | refine Own.drewN ?_ _ | (refine Own.at ?_; first | rfl | (simp; done)) | refine Own.past ?_ _ | refine Own.aside ?_ (by first | (simp; done) | (simp; omega) | omega) _)) hb2; have p2 : Own w2 B #[.int .i64 (d : Nat), .int .i64 (levI op), .bool false] := Own.keep (by with_reducible (repeat' first | assumption | refine Own.drew ?_ | refine Own.drewN ?_ _ | (refine Own.at ?_; first | rfl | (simp; done)) | refine Own.past ?_ _ | refine Own.aside ?_ (by first | (simp; done) | (simp; omega) | omega) _)) hb2; have cp0 := p0.cell; have cp1 := p1.cell; have cp2 := p2.cell; have lp0 := p0.lt; have lp1 := p1.lt; have lp2 := p2.lt; have fp1 := p1.fro; have fp2 := p2.fro; have zp := hB2.size; have k0 := ((hB2.cell (p := ⟨b, o + i * 3, none⟩) hlb).trans (hB.cell (p := ⟨b, o + i * 3, none⟩) hlb).symm).trans H0.out; have k1 := ((hB2.cell (p := ⟨b, o + i * 3 + 1, none⟩) hlb).trans (hB.cell (p := ⟨b, o + i * 3 + 1, none⟩) hlb).symm).trans H1.out; have k2 := ((hB2.cell (p := ⟨b, o + i * 3 + 2, none⟩) hlb).trans (hB.cell (p := ⟨b, o + i * 3 + 2, none⟩) hlb).symm).trans H2.out))
          go_wp2
          exact ⟨⟨i + 1, d, by go_num, by omega, by omega, HS, HA, by with_reducible (repeat' first | assumption | exact Below.refl _ _ | refine Below.drew ?_ | refine bdrewN ?_ _ | refine Below.setCell ?_ (by first | exact Nat.le_refl _ | (simp; done) | (simp; omega) | omega) _ | refine Below.alloc ?_ (by first | exact Nat.le_refl _ | (simp; done) | (simp; omega) | omega) _), by with_reducible (repeat' first | assumption | refine Own.drew ?_ | refine Own.drewN ?_ _ | (refine Own.at ?_; first | rfl | (simp; done)) | refine Own.past ?_ _ | refine Own.aside ?_ (by first | (simp; done) | (simp; omega) | omega) _), by with_reducible (repeat' first | assumption | refine Own.drew ?_ | refine Own.drewN ?_ _ | (refine Own.at ?_; first | rfl | (simp; done)) | refine Own.past ?_ _ | refine Own.aside ?_ (by first | (simp; done) | (simp; omega) | omega) _), by with_reducible (repeat' first | assumption | refine Own.drew ?_ | refine Own.drewN ?_ _ | (refine Own.at ?_; first | rfl | (simp; done)) | refine Own.past ?_ _ | refine Own.aside ?_ (by first | (simp; done) | (simp; omega) | omega) _)⟩, by simp [intOf]; omega⟩
      · rw [hm] at x2
        have HWN : Hid (workN ⟨4, tag, num, str, is, code, row, col, top, left, bot, right, op, name, args⟩ l = none) := by show _ = _; simp [workN, any_hit HT.out hm]
        clear hm
        go_wp2
        exact bodyPost_ret (v := .tuple #[.agg #[.int .i64 0, .int .i64 0, .bool false], .bool false]) (by simp [results, Tryd.results26, go_sem, c0, c1, f1, l1]) rfl ⟨by rw [HWN.out]; rfl, by with_reducible (repeat' first | assumption | exact Below.refl _ _ | refine Below.drew ?_ | refine bdrewN ?_ _ | refine Below.setCell ?_ (by first | exact Nat.le_refl _ | (simp; done) | (simp; omega) | omega) _ | refine Below.alloc ?_ (by first | exact Nat.le_refl _ | (simp; done) | (simp; omega) | omega) _)⟩
    · have hlt' : ¬ (i : Int) < n := by omega
      have HWN : Hid (workN ⟨4, tag, num, str, is, code, row, col, top, left, bot, right, op, name, args⟩ l = some ⟨false, levI op, d⟩) := by
        show _ = _
        have h := hD.out
        rw [List.take_of_length_le (by rw [HN.out]; omega)] at h
        simp [workN, ← h, any_take (by rw [HN.out]; omega) hany.out]
      go_wp2
      exact bodyPost_ret (v := .tuple #[.agg #[.int .i64 (d : Nat), .int .i64 (levI op), .bool false], .bool true]) (by simp [results, Tryd.results26, go_sem, c0, c1, c2, f1, l1]) rfl ⟨by rw [HWN.out]; rfl, by with_reducible (repeat' first | assumption | exact Below.refl _ _ | refine Below.drew ?_ | refine bdrewN ?_ _ | refine Below.setCell ?_ (by first | exact Nat.le_refl _ | (simp; done) | (simp; omega) | omega) _ | refine Below.alloc ?_ (by first | exact Nat.le_refl _ | (simp; done) | (simp; omega) | omega) _)⟩
end Go.Proofs.YtekpmdpmcbjkkaaDoor
