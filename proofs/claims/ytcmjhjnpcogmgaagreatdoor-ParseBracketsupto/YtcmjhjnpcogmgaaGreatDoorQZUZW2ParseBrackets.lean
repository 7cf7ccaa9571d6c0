/- What Parse answers, in one form. No walk. · ParseBrackets's walk: brackets around the whole change nothing, as long as there are not too many: the law returns true at every text of at most 1048575 bytes with any functions. · ParseBrackets: at every text and list of functions that hold together at most 1048576 values and letters (the statement's own bound) brackets around the whole change nothing, as long as there are not too many: the law returns true. The card's own condition: the four listed tables lie as the program's text lays them (tied to it). -/
import Derived.Test.YtcmjhjnpcogmgaaGreatDoorQMore
import Derived.Test.YtcmjhjnpcogmgaaGreatDoorQZK0ZK
import Derived.Test.YtcmjhjnpcogmgaaGreatDoorQZVZV2ZV3ZV4ZV5
import Derived.Test.YtcmjhjnpcogmgaaGreatDoorQLELHLJZBZW0ZW1
namespace Go.Proofs.YtcmjhjnpcogmgaaGreatDoor
open Go.Shelf Go.RowKit
set_option linter.all false
/-- What Parse answers, in one form: nodes, code, place. -/
def nodesOf (r : Except (Int × Int) (List Rf.Nd)) : List Rf.Nd := match r with
  | .ok ns => ns
  | .error _ => []
def codeOf (r : Except (Int × Int) (List Rf.Nd)) : Int := match r with
  | .ok _ => 0
  | .error e => e.1
def atOf (r : Except (Int × Int) (List Rf.Nd)) : Int := match r with
  | .ok _ => 0
  | .error e => e.2
theorem ParseP.uni {w w' : World} {r : Except (Int × Int) (List Rf.Nd)} {e : Ending} (h : ParseP w r e w') : ∃ p n cap, e = .returned (.tuple #[.agg #[.slice p n cap], .int .i64 (codeOf r), .int .i64 (atOf r)]) ∧ Rf.NV w' (.slice p n cap) (nodesOf r) ∧ (∀ a, p = some a → w.heap.size ≤ a.block) ∧ Below w.heap.size w w' := by
  cases r with
  | ok ns =>
    obtain ⟨v, rfl, h1, h2, h3⟩ := h
    obtain ⟨p, cap, rfl, _, _⟩ := h1.slice
    exact ⟨p, _, cap, rfl, h1.view Nd_cells_size, fun a ha => h2 a.block (by rw [ha]; rfl), h3⟩
  | error e => exact ⟨none, 0, 0, h.1, ⟨none, 0, rfl, Nat.le_refl _, fun h => absurd h (by simp [nodesOf])⟩, fun a ha => (by cases ha), h.2⟩
theorem nodes_few {K : ByteArray → Bool} {T : ByteArray → List Bool → Bool} {x : ByteArray} : (nodesOf (readS K T (toks x))).length ≤ 1024 := by
  cases h : readS K T (toks x) with
  | error e => simp [nodesOf]
  | ok ns =>
    have := read_may h
    show ns.length ≤ 1024
    unfold Rf.chkI Rf.measN at this
    by_cases h2 : 1024 < ns.length
    · rw [if_pos h2] at this; simp at this
    · omega
end Go.Proofs.YtcmjhjnpcogmgaaGreatDoor
namespace Go.Proofs.YtcmjhjnpcogmgaaGreatDoor
open Go.Shelf Go.RowKit
set_option linter.all false
theorem brkL_is (x : ByteArray) : ((⟨#[61, 40]⟩ ++ x.extract 1 x.size ++ ⟨#[41]⟩) : ByteArray) = brkL x := by
  apply Vv.toList_inj
  rw [toL, toL]
  simp only [ByteArray.data_append, Array.toList_append, ext_from]
  unfold brkL
  simp
theorem brkL_size (x : ByteArray) : (brkL x).size ≤ x.size + 3 := by
  rw [size_len, size_len]
  unfold brkL
  simp
set_option maxRecDepth 100000 in
set_option maxHeartbeats 4000000 in
theorem brk_e (w : World) (x : ByteArray) (hx : x.size + 1 ≤ 1048576) (fp : Option Addr) (fn fc : Nat) (fl : List Fu) (hF : FV w (.slice fp fn fc) fl) (hfl : fl.length ≤ 140737488355328) (hsz : ∀ y ∈ fl, y.kinds.size ≤ 281474976710656 ∧ y.name.size ≤ 281474976710656) (hS : Sgn w) (hN : Vv.Nam w) (hM : Mx w) (c a : Int) (hr : readS (knownB fl) (takesB fl) (toks x) = .error (c, a)) : Calls Tryz.prog 6 #[.string x, .slice fp fn fc] w fun e w' => e = .returned (.bool true) ∧ Below w.heap.size w w' := by
  have HP : Hid (∀ w1, Below w.heap.size w w1 → Calls Tryz.prog 9 #[.string x, .iface 29 (.slice fp fn fc)] w1 (ParseP w1 (readS (knownB fl) (takesB fl) (toks x)))) := fun w1 hb =>
    prs_any x fp fn fc fl w1 (by omega) (by have := toks_len x; omega) (fun t ht => by have := toks_str x t ht; omega) (hF.keep hb) hfl (fun y hy => (hsz y hy).1) (hS.of (hb.block _ hS.lt)) (hN.stays hb) (hM.stays hb)
  have HK : Hid (∀ w1, Below w.heap.size w w1 → Calls Tryz.prog 12 #[] w1 fun e w' => e = .returned (.bool true) ∧ Below w1.heap.size w1 w') := fun w1 hb => known6_any w1 (hS.of (hb.block _ hS.lt)) (hN.stays hb) (hM.stays hb)
  clear hS hN hM hF hfl hsz
  have hc := (read_wrong hr).1
  have hc0 : ¬ c = 0 := by omega
  have hcn : (c != 0) = true := by simpa using hc0
  rw [hr] at HP
  clear hr hc
  go_enter Tryz.func6, Tryz.ntmps6
  go_wp2_with (first | (go_at_call 9; refine (HP.out _ (by with_reducible (repeat' first | assumption | exact Below.refl _ _ | refine Below.drew ?_ | refine bdrewN ?_ _ | refine Below.setCell ?_ (by first | exact Nat.le_refl _ | (simp; done) | (simp; omega) | omega) _ | refine Below.alloc ?_ (by first | exact Nat.le_refl _ | (simp; done) | (simp; omega) | omega) _))).mono ?_; clear HP; intro e w1 hp1; obtain ⟨p1, n1, c1, rfl, hv1, _, hb1⟩ := hp1.uni; clear hp1; simp only [codeOf, atOf]; simp only [nodesOf] at hv1; have hB1 : Below w.heap.size w w1 := bup (by with_reducible (repeat' first | assumption | exact Below.refl _ _ | refine Below.drew ?_ | refine bdrewN ?_ _ | refine Below.setCell ?_ (by first | exact Nat.le_refl _ | (simp; done) | (simp; omega) | omega) _ | refine Below.alloc ?_ (by first | exact Nat.le_refl _ | (simp; done) | (simp; omega) | omega) _)) hb1; have hz1 : w.heap.size ≤ w1.heap.size := hB1.size) | (go_at_call 12; refine (HK.out _ (by with_reducible (repeat' first | assumption | exact Below.refl _ _ | refine Below.drew ?_ | refine bdrewN ?_ _ | refine Below.setCell ?_ (by first | exact Nat.le_refl _ | (simp; done) | (simp; omega) | omega) _ | refine Below.alloc ?_ (by first | exact Nat.le_refl _ | (simp; done) | (simp; omega) | omega) _))).mono ?_; clear HK; rintro e w3 ⟨rfl, hb3⟩; have hB3 : Below w.heap.size w w3 := bup (by with_reducible (repeat' first | assumption | exact Below.refl _ _ | refine Below.drew ?_ | refine bdrewN ?_ _ | refine Below.setCell ?_ (by first | exact Nat.le_refl _ | (simp; done) | (simp; omega) | omega) _ | refine Below.alloc ?_ (by first | exact Nat.le_refl _ | (simp; done) | (simp; omega) | omega) _)) hb3))
  go_ret
  exact ⟨rfl, by with_reducible (repeat' first | assumption | exact Below.refl _ _ | refine Below.drew ?_ | refine bdrewN ?_ _ | refine Below.setCell ?_ (by first | exact Nat.le_refl _ | (simp; done) | (simp; omega) | omega) _ | refine Below.alloc ?_ (by first | exact Nat.le_refl _ | (simp; done) | (simp; omega) | omega) _)⟩
set_option maxRecDepth 100000 in
set_option maxHeartbeats 8000000 in
theorem brk_y (w : World) (x : ByteArray) (hx : x.size + 1 ≤ 1048576) (fp : Option Addr) (fn fc : Nat) (fl : List Fu) (hF : FV w (.slice fp fn fc) fl) (hfl : fl.length ≤ 140737488355328) (hsz : ∀ y ∈ fl, y.kinds.size ≤ 281474976710656 ∧ y.name.size ≤ 281474976710656) (hS : Sgn w) (hN : Vv.Nam w) (hM : Mx w) (ns : List Rf.Nd) (hr : readS (knownB fl) (takesB fl) (toks x) = .ok ns) (hy : readS (knownB fl) (takesB fl) (toks (brkL x)) = .ok ns) : Calls Tryz.prog 6 #[.string x, .slice fp fn fc] w fun e w' => e = .returned (.bool true) ∧ Below w.heap.size w w' := by
  have hys : (brkL x).size ≤ x.size + 3 := brkL_size x
  have HP : Hid (∀ w1, Below w.heap.size w w1 → Calls Tryz.prog 9 #[.string x, .iface 29 (.slice fp fn fc)] w1 (ParseP w1 (readS (knownB fl) (takesB fl) (toks x)))) := fun w1 hb =>
    prs_any x fp fn fc fl w1 (by omega) (by have := toks_len x; omega) (fun t ht => by have := toks_str x t ht; omega) (hF.keep hb) hfl (fun y hy => (hsz y hy).1) (hS.of (hb.block _ hS.lt)) (hN.stays hb) (hM.stays hb)
  have HP2 : Hid (∀ w1, Below w.heap.size w w1 → Calls Tryz.prog 9 #[.string (brkL x), .iface 29 (.slice fp fn fc)] w1 (ParseP w1 (readS (knownB fl) (takesB fl) (toks (brkL x))))) := fun w1 hb =>
    prs_any (brkL x) fp fn fc fl w1 (by omega) (by have := toks_len (brkL x); omega) (fun t ht => by have := toks_str (brkL x) t ht; omega) (hF.keep hb) hfl (fun y hy => (hsz y hy).1) (hS.of (hb.block _ hS.lt)) (hN.stays hb) (hM.stays hb)
  have HK : Hid (∀ w1, Below w.heap.size w w1 → Calls Tryz.prog 12 #[] w1 fun e w' => e = .returned (.bool true) ∧ Below w1.heap.size w1 w') := fun w1 hb => known6_any w1 (hS.of (hb.block _ hS.lt)) (hN.stays hb) (hM.stays hb)
  clear hS hN hM hF hfl hsz
  have hF0 := read_no hr
  have hz0 : 0 < x.size := by
    rw [size_len]
    cases hl : x.data.toList with
    | nil => unfold isF at hF0; rw [hl] at hF0; cases hF0
    | cons c t => simp
  have he2 : (x.toList == []) = false := by
    rw [toL]
    cases hl : x.data.toList with
    | nil => unfold isF at hF0; rw [hl] at hF0; cases hF0
    | cons c t => rfl
  have hfew := nodes_few (K := knownB fl) (T := takesB fl) (x := x)
  rw [hr] at hfew HP
  rw [hy] at HP2
  have hSM : Hid (∀ w1 va vb, Rf.NV w1 va ns → Rf.NV w1 vb ns → Calls Tryz.prog 11 #[.agg #[va], .agg #[vb]] w1 fun e w' => e = .returned (.bool true) ∧ Below w1.heap.size w1 w') := fun w1 va vb h1 h2 => by
    have h := Rf.lsame_any w1 va vb ns ns h1 h2 (by simp only [nodesOf] at hfew; omega)
    rwa [Rf.sameL_refl] at h
  have HQ : Hid (∀ w1, Below w.heap.size w w1 → Calls Tryz.prog 9 #[.string (⟨#[61, 40]⟩ ++ x.extract 1 x.size ++ ⟨#[41]⟩), .iface 29 (.slice fp fn fc)] w1 fun e w' => ∃ p n cap, e = .returned (.tuple #[.agg #[.slice p n cap], .int .i64 0, .int .i64 0]) ∧ Rf.NV w' (.slice p n cap) ns ∧ Below w1.heap.size w1 w') := fun w1 hb => by
    rw [brkL_is]
    refine (HP2.out w1 hb).mono fun e w' hp => ?_
    obtain ⟨p, n, cap, h1, h2, _, h3⟩ := hp.uni
    exact ⟨p, n, cap, h1, h2, h3⟩
  clear HP2 hr hy hF0 hfew
  have hz1' : ¬ (x.size : Int) < 1 := by omega
  have hsb : (x.extract 1 x.size).size ≤ x.size := ext_size x 1
  have hcat1 : ¬ (9223372036854775807 < 2 + (x.extract 1 x.size).size) := by omega
  have hcat2 : ¬ (9223372036854775807 < 2 + (x.size - 1)) := by omega
  have hcat3 : ¬ (9223372036854775807 < 2 + (x.size - 1) + 1) := by omega
  have hcat4 : ¬ (9223372036854775807 < 2 + (x.extract 1 x.size).size + 1) := by omega
  go_enter Tryz.func6, Tryz.ntmps6
  go_wp2_with (first | (go_at_call 9; refine (HP.out _ (by with_reducible (repeat' first | assumption | exact Below.refl _ _ | refine Below.drew ?_ | refine bdrewN ?_ _ | refine Below.setCell ?_ (by first | exact Nat.le_refl _ | (simp; done) | (simp; omega) | omega) _ | refine Below.alloc ?_ (by first | exact Nat.le_refl _ | (simp; done) | (simp; omega) | omega) _))).mono ?_; clear HP; intro e w1 hp1; obtain ⟨p1, n1, c1, rfl, hv1, _, hb1⟩ := hp1.uni; clear hp1; simp only [codeOf, atOf]; simp only [nodesOf] at hv1; have hB1 : Below w.heap.size w w1 := bup (by with_reducible (repeat' first | assumption | exact Below.refl _ _ | refine Below.drew ?_ | refine bdrewN ?_ _ | refine Below.setCell ?_ (by first | exact Nat.le_refl _ | (simp; done) | (simp; omega) | omega) _ | refine Below.alloc ?_ (by first | exact Nat.le_refl _ | (simp; done) | (simp; omega) | omega) _)) hb1; have hz1 : w.heap.size ≤ w1.heap.size := hB1.size) | (go_at_call 12; refine (HK.out _ (by with_reducible (repeat' first | assumption | exact Below.refl _ _ | refine Below.drew ?_ | refine bdrewN ?_ _ | refine Below.setCell ?_ (by first | exact Nat.le_refl _ | (simp; done) | (simp; omega) | omega) _ | refine Below.alloc ?_ (by first | exact Nat.le_refl _ | (simp; done) | (simp; omega) | omega) _))).mono ?_; clear HK; rintro e w3 ⟨rfl, hb3⟩; have hB3 : Below w.heap.size w w3 := bup (by with_reducible (repeat' first | assumption | exact Below.refl _ _ | refine Below.drew ?_ | refine bdrewN ?_ _ | refine Below.setCell ?_ (by first | exact Nat.le_refl _ | (simp; done) | (simp; omega) | omega) _ | refine Below.alloc ?_ (by first | exact Nat.le_refl _ | (simp; done) | (simp; omega) | omega) _)) hb3; have oF3 : Own w3 w1.heap.size #[.slice p1 n1 c1] := Own.keep (by with_reducible (repeat' first | assumption | refine Own.drew ?_ | refine Own.drewN ?_ _ | (refine Own.at ?_; first | rfl | (simp; done)) | refine Own.past ?_ _ | refine Own.aside ?_ (by first | (simp; done) | (simp; omega) | omega) _)) hb3; have cF := oF3.cell; have fF := oF3.fro; have lF := oF3.lt; have hV3 : Rf.NV w3 (.slice p1 n1 c1) ns := Rf.View.keep hv1 (bup (by with_reducible (repeat' first | assumption | exact Below.refl _ _ | refine Below.drew ?_ | refine bdrewN ?_ _ | refine Below.setCell ?_ (by first | exact Nat.le_refl _ | (simp; done) | (simp; omega) | omega) _ | refine Below.alloc ?_ (by first | exact Nat.le_refl _ | (simp; done) | (simp; omega) | omega) _)) hb3)))
  go_loop [8, 9] (fun n i => ∃ k : Nat, k ≤ x.size ∧ i = .int .i64 k ∧ n = .int .i64 ((x.data.toList.take k).count 40 : Nat)) (fun _ i => x.size - (intOf i).toNat)
  case atStart => exact ⟨0, Nat.zero_le _, rfl, rfl⟩
  case round =>
    obtain ⟨k, hk, rfl, rfl⟩ := hrel
    by_cases hlt : k < x.size
    · have HT : Hid (x.data.toList.take (k + 1) = x.data.toList.take k ++ [x[k]]) := Dc.take_snoc x k hlt
      have hcl : (x.data.toList.take k).count 40 ≤ k := Nat.le_trans List.count_le_length (by rw [List.length_take]; omega)
      have hlt' : (k : Int) < x.size := by omega
      by_cases h40 : x[k] = 40
      · have h40' : ((x[k].toNat : Int) == 40) = true := by rw [h40]; rfl
        have HS : Hid ((x.data.toList.take (k + 1)).count 40 = (x.data.toList.take k).count 40 + 1) := by rw [HT.out, List.count_append, h40]; rfl
        clear HT h40
        go_wp2
        go_round
        case rel => exact ⟨k + 1, by omega, by go_num, by rw [HS.out]; go_num⟩
        case measure => simp [intOf]; omega
      · have h40' : ((x[k].toNat : Int) == 40) = false := by
          simp only [beq_eq_false_iff_ne, ne_eq]
          intro h
          exact h40 (UInt8.toNat_inj.1 (by show x[k].toNat = 40; omega))
        have HS : Hid ((x.data.toList.take (k + 1)).count 40 = (x.data.toList.take k).count 40) := by
          rw [HT.out, List.count_append, List.count_cons_of_ne (by simpa using h40)]; rfl
        clear HT h40
        go_wp2
        go_round
        case rel => exact ⟨k + 1, by omega, by go_num, by rw [HS.out]⟩
        case measure => simp [intOf]; omega
    · have hke : k = x.size := by omega
      have htk : x.data.toList.take k = x.data.toList := List.take_of_length_le (by rw [hke, size_len]; exact Nat.le_refl _)
      rw [htk]
      have hlt' : ¬ (k : Int) < x.size := by omega
      clear htk hke
      go_wp2_with (first | (go_at_call 9; refine (HQ.out _ (by with_reducible (repeat' first | assumption | exact Below.refl _ _ | refine Below.drew ?_ | refine bdrewN ?_ _ | refine Below.setCell ?_ (by first | exact Nat.le_refl _ | (simp; done) | (simp; omega) | omega) _ | refine Below.alloc ?_ (by first | exact Nat.le_refl _ | (simp; done) | (simp; omega) | omega) _))).mono ?_; clear HQ; rintro e w5 ⟨p5, n5, c5, rfl, hv5, hb5⟩; have hB5 : Below w.heap.size w w5 := bup (by with_reducible (repeat' first | assumption | exact Below.refl _ _ | refine Below.drew ?_ | refine bdrewN ?_ _ | refine Below.setCell ?_ (by first | exact Nat.le_refl _ | (simp; done) | (simp; omega) | omega) _ | refine Below.alloc ?_ (by first | exact Nat.le_refl _ | (simp; done) | (simp; omega) | omega) _)) hb5; have oF5 : Own w5 w1.heap.size #[.slice p1 n1 c1] := Own.keep (by with_reducible (repeat' first | assumption | refine Own.drew ?_ | refine Own.drewN ?_ _ | (refine Own.at ?_; first | rfl | (simp; done)) | refine Own.past ?_ _ | refine Own.aside ?_ (by first | (simp; done) | (simp; omega) | omega) _)) hb5; have cF5 := oF5.cell; have fF5 := oF5.fro; have lF5 := oF5.lt; have hV5 : Rf.NV w5 (.slice p1 n1 c1) ns := Rf.View.keep hV3 (bup (by with_reducible (repeat' first | assumption | exact Below.refl _ _ | refine Below.drew ?_ | refine bdrewN ?_ _ | refine Below.setCell ?_ (by first | exact Nat.le_refl _ | (simp; done) | (simp; omega) | omega) _ | refine Below.alloc ?_ (by first | exact Nat.le_refl _ | (simp; done) | (simp; omega) | omega) _)) hb5)) | (go_at_call 11; refine (hSM.out _ _ _ (Rf.View.keep hV5 (by with_reducible (repeat' first | assumption | exact Below.refl _ _ | refine Below.drew ?_ | refine bdrewN ?_ _ | refine Below.setCell ?_ (by first | exact Nat.le_refl _ | (simp; done) | (simp; omega) | omega) _ | refine Below.alloc ?_ (by first | exact Nat.le_refl _ | (simp; done) | (simp; omega) | omega) _))) (Rf.View.keep hv5 (by with_reducible (repeat' first | assumption | exact Below.refl _ _ | refine Below.drew ?_ | refine bdrewN ?_ _ | refine Below.setCell ?_ (by first | exact Nat.le_refl _ | (simp; done) | (simp; omega) | omega) _ | refine Below.alloc ?_ (by first | exact Nat.le_refl _ | (simp; done) | (simp; omega) | omega) _)))).mono ?_; clear hSM; rintro e w7 ⟨rfl, hb7⟩; have hB7 : Below w.heap.size w w7 := bup (by with_reducible (repeat' first | assumption | exact Below.refl _ _ | refine Below.drew ?_ | refine bdrewN ?_ _ | refine Below.setCell ?_ (by first | exact Nat.le_refl _ | (simp; done) | (simp; omega) | omega) _ | refine Below.alloc ?_ (by first | exact Nat.le_refl _ | (simp; done) | (simp; omega) | omega) _)) hb7))
      go_ret
      exact ⟨rfl, by with_reducible (repeat' first | assumption | exact Below.refl _ _ | refine Below.drew ?_ | refine bdrewN ?_ _ | refine Below.setCell ?_ (by first | exact Nat.le_refl _ | (simp; done) | (simp; omega) | omega) _ | refine Below.alloc ?_ (by first | exact Nat.le_refl _ | (simp; done) | (simp; omega) | omega) _)⟩
set_option maxRecDepth 100000 in
set_option maxHeartbeats 8000000 in
theorem brk_d (w : World) (x : ByteArray) (hx : x.size + 1 ≤ 1048576) (fp : Option Addr) (fn fc : Nat) (fl : List Fu) (hF : FV w (.slice fp fn fc) fl) (hfl : fl.length ≤ 140737488355328) (hsz : ∀ y ∈ fl, y.kinds.size ≤ 281474976710656 ∧ y.name.size ≤ 281474976710656) (hS : Sgn w) (hN : Vv.Nam w) (hM : Mx w) (ns : List Rf.Nd) (hr : readS (knownB fl) (takesB fl) (toks x) = .ok ns) (a : Int) (ha : 0 < a) (hy : readS (knownB fl) (takesB fl) (toks (brkL x)) = .error (7, a)) (hn : 32 ≤ x.data.toList.count 40) : Calls Tryz.prog 6 #[.string x, .slice fp fn fc] w fun e w' => e = .returned (.bool true) ∧ Below w.heap.size w w' := by
  have hys : (brkL x).size ≤ x.size + 3 := brkL_size x
  have HP : Hid (∀ w1, Below w.heap.size w w1 → Calls Tryz.prog 9 #[.string x, .iface 29 (.slice fp fn fc)] w1 (ParseP w1 (readS (knownB fl) (takesB fl) (toks x)))) := fun w1 hb =>
    prs_any x fp fn fc fl w1 (by omega) (by have := toks_len x; omega) (fun t ht => by have := toks_str x t ht; omega) (hF.keep hb) hfl (fun y hy => (hsz y hy).1) (hS.of (hb.block _ hS.lt)) (hN.stays hb) (hM.stays hb)
  have HP2 : Hid (∀ w1, Below w.heap.size w w1 → Calls Tryz.prog 9 #[.string (brkL x), .iface 29 (.slice fp fn fc)] w1 (ParseP w1 (readS (knownB fl) (takesB fl) (toks (brkL x))))) := fun w1 hb =>
    prs_any (brkL x) fp fn fc fl w1 (by omega) (by have := toks_len (brkL x); omega) (fun t ht => by have := toks_str (brkL x) t ht; omega) (hF.keep hb) hfl (fun y hy => (hsz y hy).1) (hS.of (hb.block _ hS.lt)) (hN.stays hb) (hM.stays hb)
  have HK : Hid (∀ w1, Below w.heap.size w w1 → Calls Tryz.prog 12 #[] w1 fun e w' => e = .returned (.bool true) ∧ Below w1.heap.size w1 w') := fun w1 hb => known6_any w1 (hS.of (hb.block _ hS.lt)) (hN.stays hb) (hM.stays hb)
  clear hS hN hM hF hfl hsz
  have hF0 := read_no hr
  have hz0 : 0 < x.size := by
    rw [size_len]
    cases hl : x.data.toList with
    | nil => unfold isF at hF0; rw [hl] at hF0; cases hF0
    | cons c t => simp
  have he2 : (x.toList == []) = false := by
    rw [toL]
    cases hl : x.data.toList with
    | nil => unfold isF at hF0; rw [hl] at hF0; cases hF0
    | cons c t => rfl
  have hfew := nodes_few (K := knownB fl) (T := takesB fl) (x := x)
  rw [hr] at hfew HP
  rw [hy] at HP2
  have hSM : Hid (∀ w1 va vb, Rf.NV w1 va ns → Rf.NV w1 vb ns → Calls Tryz.prog 11 #[.agg #[va], .agg #[vb]] w1 fun e w' => e = .returned (.bool true) ∧ Below w1.heap.size w1 w') := fun w1 va vb h1 h2 => by
    have h := Rf.lsame_any w1 va vb ns ns h1 h2 (by simp only [nodesOf] at hfew; omega)
    rwa [Rf.sameL_refl] at h
  have HQ : Hid (∀ w1, Below w.heap.size w w1 → Calls Tryz.prog 9 #[.string (⟨#[61, 40]⟩ ++ x.extract 1 x.size ++ ⟨#[41]⟩), .iface 29 (.slice fp fn fc)] w1 fun e w' => ∃ p n cap, e = .returned (.tuple #[.agg #[.slice p n cap], .int .i64 7, .int .i64 a]) ∧ Rf.NV w' (.slice p n cap) [] ∧ Below w1.heap.size w1 w') := fun w1 hb => by
    rw [brkL_is]
    refine (HP2.out w1 hb).mono fun e w' hp => ?_
    obtain ⟨p, n, cap, h1, h2, _, h3⟩ := hp.uni
    exact ⟨p, n, cap, h1, h2, h3⟩
  clear HP2 hr hy hF0 hfew
  have hz1' : ¬ (x.size : Int) < 1 := by omega
  have hsb : (x.extract 1 x.size).size ≤ x.size := ext_size x 1
  have hcat1 : ¬ (9223372036854775807 < 2 + (x.extract 1 x.size).size) := by omega
  have hcat2 : ¬ (9223372036854775807 < 2 + (x.size - 1)) := by omega
  have hcat3 : ¬ (9223372036854775807 < 2 + (x.size - 1) + 1) := by omega
  have hcat4 : ¬ (9223372036854775807 < 2 + (x.extract 1 x.size).size + 1) := by omega
  have ha' : decide ((0 : Int) < a) = true := by simpa using ha
  go_enter Tryz.func6, Tryz.ntmps6
  go_wp2_with (first | (go_at_call 9; refine (HP.out _ (by with_reducible (repeat' first | assumption | exact Below.refl _ _ | refine Below.drew ?_ | refine bdrewN ?_ _ | refine Below.setCell ?_ (by first | exact Nat.le_refl _ | (simp; done) | (simp; omega) | omega) _ | refine Below.alloc ?_ (by first | exact Nat.le_refl _ | (simp; done) | (simp; omega) | omega) _))).mono ?_; clear HP; intro e w1 hp1; obtain ⟨p1, n1, c1, rfl, hv1, _, hb1⟩ := hp1.uni; clear hp1; simp only [codeOf, atOf]; simp only [nodesOf] at hv1; have hB1 : Below w.heap.size w w1 := bup (by with_reducible (repeat' first | assumption | exact Below.refl _ _ | refine Below.drew ?_ | refine bdrewN ?_ _ | refine Below.setCell ?_ (by first | exact Nat.le_refl _ | (simp; done) | (simp; omega) | omega) _ | refine Below.alloc ?_ (by first | exact Nat.le_refl _ | (simp; done) | (simp; omega) | omega) _)) hb1; have hz1 : w.heap.size ≤ w1.heap.size := hB1.size) | (go_at_call 12; refine (HK.out _ (by with_reducible (repeat' first | assumption | exact Below.refl _ _ | refine Below.drew ?_ | refine bdrewN ?_ _ | refine Below.setCell ?_ (by first | exact Nat.le_refl _ | (simp; done) | (simp; omega) | omega) _ | refine Below.alloc ?_ (by first | exact Nat.le_refl _ | (simp; done) | (simp; omega) | omega) _))).mono ?_; clear HK; rintro e w3 ⟨rfl, hb3⟩; have hB3 : Below w.heap.size w w3 := bup (by with_reducible (repeat' first | assumption | exact Below.refl _ _ | refine Below.drew ?_ | refine bdrewN ?_ _ | refine Below.setCell ?_ (by first | exact Nat.le_refl _ | (simp; done) | (simp; omega) | omega) _ | refine Below.alloc ?_ (by first | exact Nat.le_refl _ | (simp; done) | (simp; omega) | omega) _)) hb3; have oF3 : Own w3 w1.heap.size #[.slice p1 n1 c1] := Own.keep (by with_reducible (repeat' first | assumption | refine Own.drew ?_ | refine Own.drewN ?_ _ | (refine Own.at ?_; first | rfl | (simp; done)) | refine Own.past ?_ _ | refine Own.aside ?_ (by first | (simp; done) | (simp; omega) | omega) _)) hb3; have cF := oF3.cell; have fF := oF3.fro; have lF := oF3.lt; have hV3 : Rf.NV w3 (.slice p1 n1 c1) ns := Rf.View.keep hv1 (bup (by with_reducible (repeat' first | assumption | exact Below.refl _ _ | refine Below.drew ?_ | refine bdrewN ?_ _ | refine Below.setCell ?_ (by first | exact Nat.le_refl _ | (simp; done) | (simp; omega) | omega) _ | refine Below.alloc ?_ (by first | exact Nat.le_refl _ | (simp; done) | (simp; omega) | omega) _)) hb3)))
  go_loop [8, 9] (fun n i => ∃ k : Nat, k ≤ x.size ∧ i = .int .i64 k ∧ n = .int .i64 ((x.data.toList.take k).count 40 : Nat)) (fun _ i => x.size - (intOf i).toNat)
  case atStart => exact ⟨0, Nat.zero_le _, rfl, rfl⟩
  case round =>
    obtain ⟨k, hk, rfl, rfl⟩ := hrel
    by_cases hlt : k < x.size
    · have HT : Hid (x.data.toList.take (k + 1) = x.data.toList.take k ++ [x[k]]) := Dc.take_snoc x k hlt
      have hcl : (x.data.toList.take k).count 40 ≤ k := Nat.le_trans List.count_le_length (by rw [List.length_take]; omega)
      have hlt' : (k : Int) < x.size := by omega
      by_cases h40 : x[k] = 40
      · have h40' : ((x[k].toNat : Int) == 40) = true := by rw [h40]; rfl
        have HS : Hid ((x.data.toList.take (k + 1)).count 40 = (x.data.toList.take k).count 40 + 1) := by rw [HT.out, List.count_append, h40]; rfl
        clear HT h40
        go_wp2
        go_round
        case rel => exact ⟨k + 1, by omega, by go_num, by rw [HS.out]; go_num⟩
        case measure => simp [intOf]; omega
      · have h40' : ((x[k].toNat : Int) == 40) = false := by
          simp only [beq_eq_false_iff_ne, ne_eq]
          intro h
          exact h40 (UInt8.toNat_inj.1 (by show x[k].toNat = 40; omega))
        have HS : Hid ((x.data.toList.take (k + 1)).count 40 = (x.data.toList.take k).count 40) := by
          rw [HT.out, List.count_append, List.count_cons_of_ne (by simpa using h40)]; rfl
        clear HT h40
        go_wp2
        go_round
        case rel => exact ⟨k + 1, by omega, by go_num, by rw [HS.out]⟩
        case measure => simp [intOf]; omega
    · have hke : k = x.size := by omega
      have htk : x.data.toList.take k = x.data.toList := List.take_of_length_le (by rw [hke, size_len]; exact Nat.le_refl _)
      rw [htk]
      have hlt' : ¬ (k : Int) < x.size := by omega
      clear htk hke
      revert hn
      generalize x.data.toList.count 40 = C
      intro hn
      have hn' : decide ((32 : Int) ≤ (C : Int)) = true := by simp; omega
      have hn2 : ¬ (C : Int) < 32 := by omega
      go_wp2_with (go_at_call 9; refine (HQ.out _ (by with_reducible (repeat' first | assumption | exact Below.refl _ _ | refine Below.drew ?_ | refine bdrewN ?_ _ | refine Below.setCell ?_ (by first | exact Nat.le_refl _ | (simp; done) | (simp; omega) | omega) _ | refine Below.alloc ?_ (by first | exact Nat.le_refl _ | (simp; done) | (simp; omega) | omega) _))).mono ?_; clear HQ; rintro e w5 ⟨p5, n5, c5, rfl, hv5, hb5⟩; have hB5 : Below w.heap.size w w5 := bup (by with_reducible (repeat' first | assumption | exact Below.refl _ _ | refine Below.drew ?_ | refine bdrewN ?_ _ | refine Below.setCell ?_ (by first | exact Nat.le_refl _ | (simp; done) | (simp; omega) | omega) _ | refine Below.alloc ?_ (by first | exact Nat.le_refl _ | (simp; done) | (simp; omega) | omega) _)) hb5; have oF5 : Own w5 w1.heap.size #[.slice p1 n1 c1] := Own.keep (by with_reducible (repeat' first | assumption | refine Own.drew ?_ | refine Own.drewN ?_ _ | (refine Own.at ?_; first | rfl | (simp; done)) | refine Own.past ?_ _ | refine Own.aside ?_ (by first | (simp; done) | (simp; omega) | omega) _)) hb5; have cF5 := oF5.cell; have fF5 := oF5.fro; have lF5 := oF5.lt; have hV5 : Rf.NV w5 (.slice p1 n1 c1) ns := Rf.View.keep hV3 (bup (by with_reducible (repeat' first | assumption | exact Below.refl _ _ | refine Below.drew ?_ | refine bdrewN ?_ _ | refine Below.setCell ?_ (by first | exact Nat.le_refl _ | (simp; done) | (simp; omega) | omega) _ | refine Below.alloc ?_ (by first | exact Nat.le_refl _ | (simp; done) | (simp; omega) | omega) _)) hb5))
      go_ret
      exact ⟨rfl, by with_reducible (repeat' first | assumption | exact Below.refl _ _ | refine Below.drew ?_ | refine bdrewN ?_ _ | refine Below.setCell ?_ (by first | exact Nat.le_refl _ | (simp; done) | (simp; omega) | omega) _ | refine Below.alloc ?_ (by first | exact Nat.le_refl _ | (simp; done) | (simp; omega) | omega) _)⟩
end Go.Proofs.YtcmjhjnpcogmgaaGreatDoor
namespace Go.Proofs.YtcmjhjnpcogmgaaGreatDoor.parseBrackets
open Go.Shelf Go.RowKit Go.ChangeShapes Go.WideShapes Go.ChangeAt
set_option linter.all false
theorem law (w : World) (x : ByteArray) (hx : x.size + 1 ≤ 1048576) (fp : Option Addr) (fn fc : Nat) (fl : List Fu) (hF : FV w (.slice fp fn fc) fl) (hfl : fl.length ≤ 140737488355328) (hsz : ∀ y ∈ fl, y.kinds.size ≤ 281474976710656 ∧ y.name.size ≤ 281474976710656) (hS : Sgn w) (hN : Vv.Nam w) (hM : Mx w) : Calls Tryz.prog 6 #[.string x, .slice fp fn fc] w fun e w' => e = .returned (.bool true) ∧ Below w.heap.size w w' := by
  cases h : readS (knownB fl) (takesB fl) (toks x) with
  | error e => exact brk_e w x hx fp fn fc fl hF hfl hsz hS hN hM e.1 e.2 h
  | ok ns =>
    rcases read_brk h with h2 | ⟨a, ha, h2, hn⟩
    · exact brk_y w x hx fp fn fc fl hF hfl hsz hS hN hM ns h h2
    · exact brk_d w x hx fp fn fc fl hF hfl hsz hS hN hM ns h a ha h2 hn
theorem reads (os : Os) {H : Type} (enc : TypeId × Value → H) : ∃ places, DataW.whole enc Tryz.prog ((World.laidAll Tryz.prog os tables).forCall (fun _ _ => 0) ⟨#[], #[.string ⟨#[]⟩, .slice none 0 0], []⟩).memory Tryz.f6.params.toList Rows.parseBracketsSpec.vars false #[.string ⟨#[]⟩, .slice none 0 0].toList 8 = some ([.lit (.string []), .nil], [], places) :=
  ⟨[], by kernel_rfl⟩
theorem met (os : Os) : laidMetH Tryz.prog tables ((World.laidAll Tryz.prog os tables).forCall (fun _ _ => 0) ⟨#[], #[.string ⟨#[]⟩, .slice none 0 0], []⟩).memory := by
  rw [MakeChecks.laidMetH_plain _ _ _ (by kernel_rfl)]; exact laidMet_laidAll _ (by kernel_rfl) (by kernel_rfl)
set_option maxRecDepth 100000 in
theorem lifted (os : Os) (started : os.Started) (H : Type) (enc : TypeId × Value → H) (F : Stop.Interp) :
    ReturnsInHanded {} Tryz.checked os 6 .any ((Rows.OpenSpec.upto Rows.parseBracketsSpec).preRow enc Tryz.prog Tryz.f6 Rows.parseBracketsUptoRow.domain false Rows.parseBracketsUptoRow.laid) (((Rows.OpenSpec.upto Rows.parseBracketsSpec).at F).post enc Tryz.prog Tryz.f6 false true false false) := by
  obtain ⟨places, hx⟩ := reads os enc
  refine returnsInHanded_of_row (C := Tryz.checked) (s := Rows.OpenSpec.upto Rows.parseBracketsSpec) own started (by kernel_rfl) Tryz.func6
    (witness_row_at (enc := enc) (C := Tryz.checked) false (World.laidAll Tryz.prog os tables) #[.string ⟨#[]⟩, .slice none 0 0] (World.laidAll_os _ _ _) (by kernel_rfl) (by kernel_rfl) (by kernel_rfl)
      (OpenSpec.preRow_of_cond 8 hx (by kernel_rfl) (fun k hk => by cases hk; kernel_rfl) (by kernel_rfl) (met os))) ?_
  intro W base args ds gs before hval hW _ hcond _ hL hSh _
  have hW' := hW
  have hlt := hW.lt
  obtain ⟨p, q, hA0, hV, rfl, _, _⟩ := hW
  have hA : DataW.TrodAll enc Tryz.prog W 0 (fun _ => true) true Tryz.f6.params.toList args.toList ds p := hA0
  rw [Tryz.params6] at hA hval
  obtain ⟨v0, vs0, d0, ds0, p0, q0, hargs, rfl, rfl, h0, r0⟩ := trodAll_cons hA
  obtain ⟨v1, vs1, d1, ds1, p1, q1, rfl, rfl, rfl, h1, r1⟩ := trodAll_cons r0
  obtain ⟨rfl, rfl, rfl⟩ := trodAll_nil r1
  obtain rfl : args = #[v0, v1] := by cases args; simp_all
  obtain ⟨rfl, rfl⟩ := trodVars_none hV
  have hk := of_decide_eq_true (hcond _ rfl)
  obtain ⟨x0, rfl, rfl, rfl, wx0⟩ := ChangeMaps.open_string Tryz.underlying9 (hval 0 9 v0 rfl rfl) h0
  obtain ⟨fp1, fn1, fc1, fl1, rfl, fv1, fd1⟩ := open_funs (hval 1 22 v1 rfl rfl) h1
  obtain ⟨len1, sz1⟩ := bulk_funs (l := [DataW.lit (.string x0.data.toList)]) hk fd1
  refine (law W x0 (bulk_str hk) fp1 fn1 fc1 fl1 fv1 (by omega) (fun x hx => by have := sz1 x hx; omega) (sgn_of_laid hL) (nam_of_laid hL) (mx_of_shaped hSh)).mono fun e W' ⟨he, hb⟩ => ?_
  subst he
  exact ⟨_, rfl, _, _, _, [], _, [], hW', trodAll_mk1 (shut_bool Tryz.underlying4 _), (trodAll_cons_mk (ChangeMaps.shut_string Tryz.underlying9 wx0) (trodAll_cons_mk (WideElems.Trod_stays laidOutZ (by kernel_rfl) rowFuns h1 (fun x hx => hb.same (hlt x (by simp [hx]))) (fun x hx => by have := hlt x (by simp [hx]); simpa using this)) trodAll_mk0)), rfl, hb.frame _, fun h => by cases h⟩
theorem holds : Rows.ParseBracketsUptoSaid :=
  OpenClaim.holds_of_cond 6 Tryz.f6 rfl rfl rfl rfl rfl rfl rfl ⟨rfl, rfl, rfl, rfl, rfl⟩ rfl rfl rfl rfl rfl (by kernel_rfl) Tryz.func6 (by kernel_rfl)
    (of_decide_eq_true (by kernel_rfl)) (by unfold Func.isWrapper; first | (rw [if_pos (by decide +kernel)]; kernel_rfl) | (rw [if_neg (by decide +kernel)]; exact ⟨rfl, rfl⟩))
    (fun os started H enc _ F => by rw [OpenClaim.pre_eq_preRow]; exact lifted os started H enc F)
theorem plain (f : FuncId) (fn : Func) (hf : Tryz.pinned.checked.prog.funcNamed "oriel/oriellaw06.ParseBrackets" = some f) (hfn : Tryz.pinned.checked.prog.funcs[f]? = some fn) :
    true = Tryz.pinned.checked.prog.looks [] ∧ ∀ (j : Nat) t, fn.params[j]? = some t → Tryz.pinned.checked.prog.wantsStandIn t = false := by
  obtain rfl : f = 6 := Option.some.inj ((show Tryz.prog.funcNamed "oriel/oriellaw06.ParseBrackets" = some 6 by kernel_rfl).symm.trans hf) |>.symm
  obtain rfl : fn = Tryz.f6 := (Option.some.inj (Tryz.func6.symm.trans hfn)).symm
  refine ⟨by kernel_rfl, fun j t ht => ?_⟩
  rw [Tryz.params6] at ht
  have hm : t ∈ [9, 22] := by simpa using Array.mem_of_getElem? ht
  have hall : ([9, 22].all fun u => !Tryz.prog.wantsStandIn u) = true := by kernel_rfl
  exact (show Tryz.prog.wantsStandIn t = false by simpa using List.all_eq_true.1 hall t hm)
/-- The card. -/
theorem card : Rows.ParseBracketsUptoCardSaid :=
  Claim7.holds_tied_plain_at .later [] _ _ _ _ holds (fun _ h => by cases h) (by kernel_rfl) (fun _ h => by cases h) parseBracketsUpto_row_tie rfl ⟨rfl, rfl⟩ (by kernel_rfl) rfl plain (by kernel_rfl)
end Go.Proofs.YtcmjhjnpcogmgaaGreatDoor.parseBrackets
namespace Go.Proofs.YtcmjhjnpcogmgaaGreatDoor
theorem parseBrackets_card : Rows.ParseBracketsUptoCardSaid := parseBrackets.card
end Go.Proofs.YtcmjhjnpcogmgaaGreatDoor
