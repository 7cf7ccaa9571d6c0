/- The contract of refs's work, where there are things to work on. New memory alone is made. The conditions: at most 1024 things, none deeper than 4096. -/
import Derived.Test.YtekpmdpmcbjkkaaDoorN5
namespace Go.Proofs.YtekpmdpmcbjkkaaDoor
open Go.Shelf Go.RowKit
set_option linter.all false
/-- What work answers. -/
def thOut : Option Th → Value
  | some t => .tuple #[.agg t.cells, .bool true]
  | none => .tuple #[.agg #[.bool false, .int .i64 0, .int .i64 0], .bool false]
theorem any_take {l : List Th} {i : Nat} (h : l.length ≤ i) (h1 : (l.take i).any (·.many) = false) : l.any (·.many) = false := by rwa [List.take_of_length_le h] at h1
set_option maxRecDepth 100000 in
set_option maxHeartbeats 4000000 in
theorem work4_y (tag : Int) (num : Int) (str : ByteArray) (is : Bool) (code : Int) (row : Int) (col : Int) (top : Int) (left : Int) (bot : Int) (right : Int) (op : Int) (name : ByteArray) (args : Int) (w : World) (b o cap n : Nat) (l : List Th) (hlb : b < w.heap.size) (HC : ∀ i t, l[i]? = some t → ∀ j, j < 3 → w.cell? ⟨b, o + i * 3 + j, none⟩ = (Th.cells t)[j]?)
    (hn : l.length = n) (hcap : n ≤ cap) (h0 : 0 < n) (hl : n ≤ 1024) (hdp : ∀ t ∈ l, t.dep ≤ 4096) :
    Calls Tryd.prog 22 #[.agg #[.int .i64 4, .int .i64 tag, .int .i64 num, .string str, .bool is, .int .i64 code, .int .i64 row, .int .i64 col, .int .i64 top, .int .i64 left, .int .i64 bot, .int .i64 right, .int .i64 op, .string name, .int .i64 args], .slice (some ⟨b, o, none⟩) n cap] w fun e w' => e = .returned (thOut (workN ⟨4, tag, num, str, is, code, row, col, top, left, bot, right, op, name, args⟩ l)) ∧ Below w.heap.size w w' := by
  have mixed : Tryd.prog.follows .mixedOrders = true := by kernel_rfl
  have HC' : Hid _ := HC
  have HN : Hid (l.length = n) := hn
  have HDP : Hid _ := hdp
  clear HC hn hdp
  go_enter Tryd.func22, Tryd.ntmps22
  go_wp2
  go_loopw [6, 11] (fun x v w' => ∃ i d : Nat, v = .int .i64 i ∧ i ≤ n ∧ x = .int .i64 d ∧ d ≤ 5000 ∧ Hid (d = maxD op true 0 (l.take i) 0) ∧ Hid ((l.take i).any (·.many) = false) ∧ Below w.heap.size w w' ∧ Own w' w.heap.size #[.int .i64 4, .int .i64 tag, .int .i64 num, .string str, .bool is, .int .i64 code, .int .i64 row, .int .i64 col, .int .i64 top, .int .i64 left, .int .i64 bot, .int .i64 right, .int .i64 op, .string name, .int .i64 args] ∧ Own w' (w.heap.size + 1) #[.bool false, .int .i64 0, .int .i64 0]) (fun _ v _ => n - (intOf v).toNat)
  case atStart => exact ⟨0, 0, rfl, by omega, rfl, by omega, rfl, rfl, by with_reducible (repeat' first | assumption | exact Below.refl _ _ | refine Below.drew ?_ | refine bdrewN ?_ _ | refine Below.setCell ?_ (by first | exact Nat.le_refl _ | (simp; done) | (simp; omega) | omega) _ | refine Below.alloc ?_ (by first | exact Nat.le_refl _ | (simp; done) | (simp; omega) | omega) _), by with_reducible (repeat' first | assumption | refine Own.drew ?_ | refine Own.drewN ?_ _ | (refine Own.at ?_; first | rfl | (simp; done)) | refine Own.past ?_ _ | refine Own.aside ?_ (by first | (simp; done) | (simp; omega) | omega) _), by with_reducible (repeat' first | assumption | refine Own.drew ?_ | refine Own.drewN ?_ _ | (refine Own.at ?_; first | rfl | (simp; done)) | refine Own.past ?_ _ | refine Own.aside ?_ (by first | (simp; done) | (simp; omega) | omega) _)⟩
  case round =>
    obtain ⟨i, d, rfl, hi, rfl, hd, hD, hany, hB, o0, o1⟩ := hrel
    have c0 := o0.cell
    have c1 := o1.cell
    have l0 := o0.lt
    have l1 := o1.lt
    have f1 := o1.fro
    by_cases hlt : i < n
    · have hlt' : (i : Int) < n := by omega
      have hti : l[i]? = some (l[i]'(by rw [HN.out]; exact hlt)) := List.getElem?_eq_getElem _
      have hdt := HDP.out _ (List.mem_of_getElem? hti)
      have cx := fun j hj => (show wr.cell? ⟨b, o + i * 3 + j, none⟩ = _ from (hB.cell (p := ⟨b, o + i * 3 + j, none⟩) hlb).trans (HC'.out i _ hti j hj))
      have HT : Hid _ := hti
      revert cx HT hdt
      generalize (l[i]'(by rw [HN.out]; exact hlt)) = t
      intro hdt cx HT
      clear hti
      have x0 : wr.cell? ⟨b, o + i * 3, none⟩ = some (Value.bool t.many) := cx 0 (by decide)
      have x1 : wr.cell? ⟨b, o + i * 3 + 1, none⟩ = some (Value.int .i64 t.lev) := cx 1 (by decide)
      have x2 : wr.cell? ⟨b, o + i * 3 + 2, none⟩ = some (Value.int .i64 t.dep) := cx 2 (by decide)
      clear cx
      have hI := fun w => inBr_any op i t.lev w
      {
        cases hm : t.many
        · rw [hm] at x0
          cases hbr : inBr op i t.lev
          · rw [hbr] at hI
            have hb1 : bump op true i t = t.dep := bump_f hbr
            have HS : Hid (max d t.dep = maxD op true 0 (l.take (i + 1)) 0) := by show _ = _; rw [maxD_next op true HT.out, hb1, ← hD.out]
            have HA : Hid ((l.take (i + 1)).any (·.many) = false) := any_next HT.out hany.out hm
            clear hbr hb1 hm
            go_wp2_with (go_at_call 31; refine (hI _).mono ?_; rintro e w1 ⟨rfl, hb⟩; have hB : Below w.heap.size w w1 := bup (by with_reducible (repeat' first | assumption | exact Below.refl _ _ | refine Below.drew ?_ | refine bdrewN ?_ _ | refine Below.setCell ?_ (by first | exact Nat.le_refl _ | (simp; done) | (simp; omega) | omega) _ | refine Below.alloc ?_ (by first | exact Nat.le_refl _ | (simp; done) | (simp; omega) | omega) _)) hb; have o0 : Own w1 (w.heap.size) #[.int .i64 4, .int .i64 tag, .int .i64 num, .string str, .bool is, .int .i64 code, .int .i64 row, .int .i64 col, .int .i64 top, .int .i64 left, .int .i64 bot, .int .i64 right, .int .i64 op, .string name, .int .i64 args] := Own.keep (by with_reducible (repeat' first | assumption | refine Own.drew ?_ | refine Own.drewN ?_ _ | (refine Own.at ?_; first | rfl | (simp; done)) | refine Own.past ?_ _ | refine Own.aside ?_ (by first | (simp; done) | (simp; omega) | omega) _)) hb; have c0 := o0.cell; have f0 := o0.fro; have l0 := o0.lt; have o1 : Own w1 (w.heap.size + 1) #[.bool false, .int .i64 0, .int .i64 0] := Own.keep (by with_reducible (repeat' first | assumption | refine Own.drew ?_ | refine Own.drewN ?_ _ | (refine Own.at ?_; first | rfl | (simp; done)) | refine Own.past ?_ _ | refine Own.aside ?_ (by first | (simp; done) | (simp; omega) | omega) _)) hb; have c1 := o1.cell; have f1 := o1.fro; have l1 := o1.lt; have o2 : Own w1 (wr.heap.size) #[.bool false, .int .i64 t.lev, .int .i64 t.dep] := Own.keep (by with_reducible (repeat' first | assumption | refine Own.drew ?_ | refine Own.drewN ?_ _ | (refine Own.at ?_; first | rfl | (simp; done)) | refine Own.past ?_ _ | refine Own.aside ?_ (by first | (simp; done) | (simp; omega) | omega) _)) hb; have c2 := o2.cell; have f2 := o2.fro; have l2 := o2.lt)
            go_roundw
            case rel => exact ⟨i + 1, max d t.dep, by go_num, by omega, by first | rfl | exact congrArg _ (max_cast _ _) | (simp; omega), by omega, HS, HA, by with_reducible (repeat' first | assumption | exact Below.refl _ _ | refine Below.drew ?_ | refine bdrewN ?_ _ | refine Below.setCell ?_ (by first | exact Nat.le_refl _ | (simp; done) | (simp; omega) | omega) _ | refine Below.alloc ?_ (by first | exact Nat.le_refl _ | (simp; done) | (simp; omega) | omega) _), by with_reducible (repeat' first | assumption | refine Own.drew ?_ | refine Own.drewN ?_ _ | (refine Own.at ?_; first | rfl | (simp; done)) | refine Own.past ?_ _ | refine Own.aside ?_ (by first | (simp; done) | (simp; omega) | omega) _), by with_reducible (repeat' first | assumption | refine Own.drew ?_ | refine Own.drewN ?_ _ | (refine Own.at ?_; first | rfl | (simp; done)) | refine Own.past ?_ _ | refine Own.aside ?_ (by first | (simp; done) | (simp; omega) | omega) _)⟩
            case measure => simp [intOf]; omega
          · rw [hbr] at hI
            have hb1 : bump op true i t = t.dep + 1 := bump_t hbr
            have HS : Hid (max d (t.dep + 1) = maxD op true 0 (l.take (i + 1)) 0) := by show _ = _; rw [maxD_next op true HT.out, hb1, ← hD.out]
            have HA : Hid ((l.take (i + 1)).any (·.many) = false) := any_next HT.out hany.out hm
            clear hbr hb1 hm
            go_wp2_with (go_at_call 31; refine (hI _).mono ?_; rintro e w1 ⟨rfl, hb⟩; have hB : Below w.heap.size w w1 := bup (by with_reducible (repeat' first | assumption | exact Below.refl _ _ | refine Below.drew ?_ | refine bdrewN ?_ _ | refine Below.setCell ?_ (by first | exact Nat.le_refl _ | (simp; done) | (simp; omega) | omega) _ | refine Below.alloc ?_ (by first | exact Nat.le_refl _ | (simp; done) | (simp; omega) | omega) _)) hb; have o0 : Own w1 (w.heap.size) #[.int .i64 4, .int .i64 tag, .int .i64 num, .string str, .bool is, .int .i64 code, .int .i64 row, .int .i64 col, .int .i64 top, .int .i64 left, .int .i64 bot, .int .i64 right, .int .i64 op, .string name, .int .i64 args] := Own.keep (by with_reducible (repeat' first | assumption | refine Own.drew ?_ | refine Own.drewN ?_ _ | (refine Own.at ?_; first | rfl | (simp; done)) | refine Own.past ?_ _ | refine Own.aside ?_ (by first | (simp; done) | (simp; omega) | omega) _)) hb; have c0 := o0.cell; have f0 := o0.fro; have l0 := o0.lt; have o1 : Own w1 (w.heap.size + 1) #[.bool false, .int .i64 0, .int .i64 0] := Own.keep (by with_reducible (repeat' first | assumption | refine Own.drew ?_ | refine Own.drewN ?_ _ | (refine Own.at ?_; first | rfl | (simp; done)) | refine Own.past ?_ _ | refine Own.aside ?_ (by first | (simp; done) | (simp; omega) | omega) _)) hb; have c1 := o1.cell; have f1 := o1.fro; have l1 := o1.lt; have o2 : Own w1 (wr.heap.size) #[.bool false, .int .i64 t.lev, .int .i64 t.dep] := Own.keep (by with_reducible (repeat' first | assumption | refine Own.drew ?_ | refine Own.drewN ?_ _ | (refine Own.at ?_; first | rfl | (simp; done)) | refine Own.past ?_ _ | refine Own.aside ?_ (by first | (simp; done) | (simp; omega) | omega) _)) hb; have c2 := o2.cell; have f2 := o2.fro; have l2 := o2.lt)
            go_roundw
            case rel => exact ⟨i + 1, max d (t.dep + 1), by go_num, by omega, by first | rfl | exact congrArg _ (max_cast _ _) | (simp; omega), by omega, HS, HA, by with_reducible (repeat' first | assumption | exact Below.refl _ _ | refine Below.drew ?_ | refine bdrewN ?_ _ | refine Below.setCell ?_ (by first | exact Nat.le_refl _ | (simp; done) | (simp; omega) | omega) _ | refine Below.alloc ?_ (by first | exact Nat.le_refl _ | (simp; done) | (simp; omega) | omega) _), by with_reducible (repeat' first | assumption | refine Own.drew ?_ | refine Own.drewN ?_ _ | (refine Own.at ?_; first | rfl | (simp; done)) | refine Own.past ?_ _ | refine Own.aside ?_ (by first | (simp; done) | (simp; omega) | omega) _), by with_reducible (repeat' first | assumption | refine Own.drew ?_ | refine Own.drewN ?_ _ | (refine Own.at ?_; first | rfl | (simp; done)) | refine Own.past ?_ _ | refine Own.aside ?_ (by first | (simp; done) | (simp; omega) | omega) _)⟩
            case measure => simp [intOf]; omega
        · rw [hm] at x0
          have hw : workN ⟨4, tag, num, str, is, code, row, col, top, left, bot, right, op, name, args⟩ l = none := by simp [workN, any_hit HT.out hm]
          have HW : Hid _ := hw
          clear hw hm hI
          go_wp2
          exact bodyPost_ret (v := .tuple #[.agg #[.bool false, .int .i64 0, .int .i64 0], .bool false]) (by simp [results, Tryd.results22, go_sem, c0, c1, f1, l1]) rfl ⟨by rw [HW.out]; rfl, by with_reducible (repeat' first | assumption | exact Below.refl _ _ | refine Below.drew ?_ | refine bdrewN ?_ _ | refine Below.setCell ?_ (by first | exact Nat.le_refl _ | (simp; done) | (simp; omega) | omega) _ | refine Below.alloc ?_ (by first | exact Nat.le_refl _ | (simp; done) | (simp; omega) | omega) _)⟩
      }
    · have hlt' : ¬ (i : Int) < n := by omega
      have hw : workN ⟨4, tag, num, str, is, code, row, col, top, left, bot, right, op, name, args⟩ l = some ⟨false, levI op, d⟩ := by
        have h := hD.out
        rw [List.take_of_length_le (by rw [HN.out]; omega)] at h
        simp [workN, ← h, any_take (by rw [HN.out]; omega) hany.out]
      have HW : Hid _ := hw
      clear hw
      go_wp2_with fail
      go_region_held3 (fun w' => w'.cell? ⟨w.heap.size, 0, none⟩ = some (.int .i64 4) ∧ w'.cell? ⟨w.heap.size, 12, none⟩ = some (.int .i64 op)) ((repeat' apply And.intro) <;> (first | (go_keep; done) | (go_simp; done))) ((go_at_call 32; refine (level_any op _).mono ?_; rintro e w1 ⟨rfl, hb⟩; have hB : Below w.heap.size w w1 := bup (by with_reducible (repeat' first | assumption | exact Below.refl _ _ | refine Below.drew ?_ | refine bdrewN ?_ _ | refine Below.setCell ?_ (by first | exact Nat.le_refl _ | (simp; done) | (simp; omega) | omega) _ | refine Below.alloc ?_ (by first | exact Nat.le_refl _ | (simp; done) | (simp; omega) | omega) _)) hb; have o0 : Own w1 (w.heap.size) #[.int .i64 4, .int .i64 tag, .int .i64 num, .string str, .bool is, .int .i64 code, .int .i64 row, .int .i64 col, .int .i64 top, .int .i64 left, .int .i64 bot, .int .i64 right, .int .i64 op, .string name, .int .i64 args] := Own.keep (by with_reducible (repeat' first | assumption | refine Own.drew ?_ | refine Own.drewN ?_ _ | (refine Own.at ?_; first | rfl | (simp; done)) | refine Own.past ?_ _ | refine Own.aside ?_ (by first | (simp; done) | (simp; omega) | omega) _)) hb; have c0 := o0.cell; have f0 := o0.fro; have l0 := o0.lt; have o1 : Own w1 (w.heap.size + 1) #[.bool false, .int .i64 0, .int .i64 0] := Own.keep (by with_reducible (repeat' first | assumption | refine Own.drew ?_ | refine Own.drewN ?_ _ | (refine Own.at ?_; first | rfl | (simp; done)) | refine Own.past ?_ _ | refine Own.aside ?_ (by first | (simp; done) | (simp; omega) | omega) _)) hb; have c1 := o1.cell; have f1 := o1.fro; have l1 := o1.lt))
      all_goals go_wp2
      all_goals exact bodyPost_ret (v := .tuple #[.agg #[.bool false, .int .i64 (levI op), .int .i64 (d)], .bool true]) (by simp [results, Tryd.results22, go_sem, c0, c1, f1, l1]) rfl ⟨by rw [HW.out]; first | rfl | (simp [thOut, Th.cells]; done), by with_reducible (repeat' first | assumption | exact Below.refl _ _ | refine Below.drew ?_ | refine bdrewN ?_ _ | refine Below.setCell ?_ (by first | exact Nat.le_refl _ | (simp; done) | (simp; omega) | omega) _ | refine Below.alloc ?_ (by first | exact Nat.le_refl _ | (simp; done) | (simp; omega) | omega) _)⟩
set_option maxRecDepth 100000 in
set_option maxHeartbeats 4000000 in
theorem work5_y (tag : Int) (num : Int) (str : ByteArray) (is : Bool) (code : Int) (row : Int) (col : Int) (top : Int) (left : Int) (bot : Int) (right : Int) (op : Int) (name : ByteArray) (args : Int) (w : World) (b o cap n : Nat) (l : List Th) (hlb : b < w.heap.size) (HC : ∀ i t, l[i]? = some t → ∀ j, j < 3 → w.cell? ⟨b, o + i * 3 + j, none⟩ = (Th.cells t)[j]?)
    (hn : l.length = n) (hcap : n ≤ cap) (h0 : 0 < n) (hl : n ≤ 1024) (hdp : ∀ t ∈ l, t.dep ≤ 4096) :
    Calls Tryd.prog 22 #[.agg #[.int .i64 5, .int .i64 tag, .int .i64 num, .string str, .bool is, .int .i64 code, .int .i64 row, .int .i64 col, .int .i64 top, .int .i64 left, .int .i64 bot, .int .i64 right, .int .i64 op, .string name, .int .i64 args], .slice (some ⟨b, o, none⟩) n cap] w fun e w' => e = .returned (thOut (workN ⟨5, tag, num, str, is, code, row, col, top, left, bot, right, op, name, args⟩ l)) ∧ Below w.heap.size w w' := by
  have mixed : Tryd.prog.follows .mixedOrders = true := by kernel_rfl
  have HC' : Hid _ := HC
  have HN : Hid (l.length = n) := hn
  have HDP : Hid _ := hdp
  clear HC hn hdp
  go_enter Tryd.func22, Tryd.ntmps22
  go_wp2
  go_loopw [6, 11] (fun x v w' => ∃ i d : Nat, v = .int .i64 i ∧ i ≤ n ∧ x = .int .i64 d ∧ d ≤ 5000 ∧ Hid (d = maxD op false 0 (l.take i) 0) ∧ Below w.heap.size w w' ∧ Own w' w.heap.size #[.int .i64 5, .int .i64 tag, .int .i64 num, .string str, .bool is, .int .i64 code, .int .i64 row, .int .i64 col, .int .i64 top, .int .i64 left, .int .i64 bot, .int .i64 right, .int .i64 op, .string name, .int .i64 args] ∧ Own w' (w.heap.size + 1) #[.bool false, .int .i64 0, .int .i64 0]) (fun _ v _ => n - (intOf v).toNat)
  case atStart => exact ⟨0, 0, rfl, by omega, rfl, by omega, rfl, by with_reducible (repeat' first | assumption | exact Below.refl _ _ | refine Below.drew ?_ | refine bdrewN ?_ _ | refine Below.setCell ?_ (by first | exact Nat.le_refl _ | (simp; done) | (simp; omega) | omega) _ | refine Below.alloc ?_ (by first | exact Nat.le_refl _ | (simp; done) | (simp; omega) | omega) _), by with_reducible (repeat' first | assumption | refine Own.drew ?_ | refine Own.drewN ?_ _ | (refine Own.at ?_; first | rfl | (simp; done)) | refine Own.past ?_ _ | refine Own.aside ?_ (by first | (simp; done) | (simp; omega) | omega) _), by with_reducible (repeat' first | assumption | refine Own.drew ?_ | refine Own.drewN ?_ _ | (refine Own.at ?_; first | rfl | (simp; done)) | refine Own.past ?_ _ | refine Own.aside ?_ (by first | (simp; done) | (simp; omega) | omega) _)⟩
  case round =>
    obtain ⟨i, d, rfl, hi, rfl, hd, hD, hB, o0, o1⟩ := hrel
    have c0 := o0.cell
    have c1 := o1.cell
    have l0 := o0.lt
    have l1 := o1.lt
    have f1 := o1.fro
    by_cases hlt : i < n
    · have hlt' : (i : Int) < n := by omega
      have hti : l[i]? = some (l[i]'(by rw [HN.out]; exact hlt)) := List.getElem?_eq_getElem _
      have hdt := HDP.out _ (List.mem_of_getElem? hti)
      have cx := fun j hj => (show wr.cell? ⟨b, o + i * 3 + j, none⟩ = _ from (hB.cell (p := ⟨b, o + i * 3 + j, none⟩) hlb).trans (HC'.out i _ hti j hj))
      have HT : Hid _ := hti
      revert cx HT hdt
      generalize (l[i]'(by rw [HN.out]; exact hlt)) = t
      intro hdt cx HT
      clear hti
      have x0 : wr.cell? ⟨b, o + i * 3, none⟩ = some (Value.bool t.many) := cx 0 (by decide)
      have x1 : wr.cell? ⟨b, o + i * 3 + 1, none⟩ = some (Value.int .i64 t.lev) := cx 1 (by decide)
      have x2 : wr.cell? ⟨b, o + i * 3 + 2, none⟩ = some (Value.int .i64 t.dep) := cx 2 (by decide)
      clear cx

      {
        have HS : Hid (max d t.dep = maxD op false 0 (l.take (i + 1)) 0) := by show _ = _; rw [maxD_next op false HT.out, bump_n, ← hD.out]
        cases hm : t.many
        · rw [hm] at x0
          clear hm
          go_wp2
          go_roundw
          case rel => exact ⟨i + 1, max d t.dep, by go_num, by omega, by first | rfl | exact congrArg _ (max_cast _ _) | (simp; omega), by omega, HS, by with_reducible (repeat' first | assumption | exact Below.refl _ _ | refine Below.drew ?_ | refine bdrewN ?_ _ | refine Below.setCell ?_ (by first | exact Nat.le_refl _ | (simp; done) | (simp; omega) | omega) _ | refine Below.alloc ?_ (by first | exact Nat.le_refl _ | (simp; done) | (simp; omega) | omega) _), by with_reducible (repeat' first | assumption | refine Own.drew ?_ | refine Own.drewN ?_ _ | (refine Own.at ?_; first | rfl | (simp; done)) | refine Own.past ?_ _ | refine Own.aside ?_ (by first | (simp; done) | (simp; omega) | omega) _), by with_reducible (repeat' first | assumption | refine Own.drew ?_ | refine Own.drewN ?_ _ | (refine Own.at ?_; first | rfl | (simp; done)) | refine Own.past ?_ _ | refine Own.aside ?_ (by first | (simp; done) | (simp; omega) | omega) _)⟩
          case measure => simp [intOf]; omega
        · rw [hm] at x0
          clear hm
          go_wp2
          go_roundw
          case rel => exact ⟨i + 1, max d t.dep, by go_num, by omega, by first | rfl | exact congrArg _ (max_cast _ _) | (simp; omega), by omega, HS, by with_reducible (repeat' first | assumption | exact Below.refl _ _ | refine Below.drew ?_ | refine bdrewN ?_ _ | refine Below.setCell ?_ (by first | exact Nat.le_refl _ | (simp; done) | (simp; omega) | omega) _ | refine Below.alloc ?_ (by first | exact Nat.le_refl _ | (simp; done) | (simp; omega) | omega) _), by with_reducible (repeat' first | assumption | refine Own.drew ?_ | refine Own.drewN ?_ _ | (refine Own.at ?_; first | rfl | (simp; done)) | refine Own.past ?_ _ | refine Own.aside ?_ (by first | (simp; done) | (simp; omega) | omega) _), by with_reducible (repeat' first | assumption | refine Own.drew ?_ | refine Own.drewN ?_ _ | (refine Own.at ?_; first | rfl | (simp; done)) | refine Own.past ?_ _ | refine Own.aside ?_ (by first | (simp; done) | (simp; omega) | omega) _)⟩
          case measure => simp [intOf]; omega
      }
    · have hlt' : ¬ (i : Int) < n := by omega
      have hw : workN ⟨5, tag, num, str, is, code, row, col, top, left, bot, right, op, name, args⟩ l = some ⟨false, levI op, d + 1⟩ := by
        have h := hD.out
        rw [List.take_of_length_le (by rw [HN.out]; omega)] at h
        simp [workN, ← h]
      have HW : Hid _ := hw
      clear hw
      go_wp2_with fail
      go_region_held3 (fun w' => w'.cell? ⟨w.heap.size, 0, none⟩ = some (.int .i64 5) ∧ w'.cell? ⟨w.heap.size, 12, none⟩ = some (.int .i64 op)) ((repeat' apply And.intro) <;> (first | (go_keep; done) | (go_simp; done))) ((go_at_call 32; refine (level_any op _).mono ?_; rintro e w1 ⟨rfl, hb⟩; have hB : Below w.heap.size w w1 := bup (by with_reducible (repeat' first | assumption | exact Below.refl _ _ | refine Below.drew ?_ | refine bdrewN ?_ _ | refine Below.setCell ?_ (by first | exact Nat.le_refl _ | (simp; done) | (simp; omega) | omega) _ | refine Below.alloc ?_ (by first | exact Nat.le_refl _ | (simp; done) | (simp; omega) | omega) _)) hb; have o0 : Own w1 (w.heap.size) #[.int .i64 5, .int .i64 tag, .int .i64 num, .string str, .bool is, .int .i64 code, .int .i64 row, .int .i64 col, .int .i64 top, .int .i64 left, .int .i64 bot, .int .i64 right, .int .i64 op, .string name, .int .i64 args] := Own.keep (by with_reducible (repeat' first | assumption | refine Own.drew ?_ | refine Own.drewN ?_ _ | (refine Own.at ?_; first | rfl | (simp; done)) | refine Own.past ?_ _ | refine Own.aside ?_ (by first | (simp; done) | (simp; omega) | omega) _)) hb; have c0 := o0.cell; have f0 := o0.fro; have l0 := o0.lt; have o1 : Own w1 (w.heap.size + 1) #[.bool false, .int .i64 0, .int .i64 0] := Own.keep (by with_reducible (repeat' first | assumption | refine Own.drew ?_ | refine Own.drewN ?_ _ | (refine Own.at ?_; first | rfl | (simp; done)) | refine Own.past ?_ _ | refine Own.aside ?_ (by first | (simp; done) | (simp; omega) | omega) _)) hb; have c1 := o1.cell; have f1 := o1.fro; have l1 := o1.lt))
      all_goals go_wp2
      all_goals exact bodyPost_ret (v := .tuple #[.agg #[.bool false, .int .i64 (levI op), .int .i64 ((d : Int) + 1)], .bool true]) (by simp [results, Tryd.results22, go_sem, c0, c1, f1, l1]) rfl ⟨by rw [HW.out]; first | rfl | (simp [thOut, Th.cells]; done), by with_reducible (repeat' first | assumption | exact Below.refl _ _ | refine Below.drew ?_ | refine bdrewN ?_ _ | refine Below.setCell ?_ (by first | exact Nat.le_refl _ | (simp; done) | (simp; omega) | omega) _ | refine Below.alloc ?_ (by first | exact Nat.le_refl _ | (simp; done) | (simp; omega) | omega) _)⟩
end Go.Proofs.YtekpmdpmcbjkkaaDoor
