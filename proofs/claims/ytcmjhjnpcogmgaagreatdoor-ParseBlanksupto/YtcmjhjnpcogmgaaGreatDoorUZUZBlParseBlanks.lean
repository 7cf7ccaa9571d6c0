/- What Parse answers, in one form -/
import Derived.Test.YtcmjhjnpcogmgaaGreatDoorUAuto
import Derived.Test.YtcmjhjnpcogmgaaGreatDoorUZK0ZK
import Derived.Test.YtcmjhjnpcogmgaaGreatDoorUZVZV2ZV3ZV4ZV5
import Derived.Test.YtcmjhjnpcogmgaaGreatDoorULELHLJZB
import Derived.Test.YtcmjhjnpcogmgaaGreatDoorURL8RL9RMLAxRLX
set_option linter.all false
set_option maxRecDepth 100000
set_option maxHeartbeats 4000000
namespace Go.Proofs.YtcmjhjnpcogmgaaGreatDoor
open Go.Shelf Go.RowKit
def nodesOf (r : Except (Int × Int) (List Rf.Nd)) : List Rf.Nd := match r with
 | .ok ns => ns
 | .error _ => []
def codeOf (r : Except (Int × Int) (List Rf.Nd)) : Int := match r with
 | .ok _ => 0
 | .error e => e.1
def atOf (r : Except (Int × Int) (List Rf.Nd)) : Int := match r with
 | .ok _ => 0
 | .error e => e.2
theorem ParseP.uni {w w' : World} {r : Except (Int × Int) (List Rf.Nd)} {e : Ending} (h : ParseP w r e w') : ∃ p n cap, e = .returned (.tuple #[.agg #[.slice p n cap], .int .i64 (codeOf r), .int .i64 (atOf r)]) ∧ Rf.NV w' (.slice p n cap) (nodesOf r) ∧ (∀ a, p = some a → w.heap.size ≤ a.block) ∧ Below w.heap.size w w' := by
 cases r with
 | ok ns =>
  obtain ⟨v, rfl, h1, h2, h3⟩ := h
  obtain ⟨p, cap, rfl, _, _⟩ := h1.slice
  exact ⟨p, _, cap, rfl, h1.view Nd_cells_size, fun a ha => h2 a.block (by rw [ha]; rfl), h3⟩
 | error e => exact ⟨none, 0, 0, h.1, ⟨none, 0, rfl, Nat.le_refl _, fun h => absurd h (by simp [nodesOf])⟩, fun a ha => (by cases ha), h.2⟩
theorem nv_same {w w' : World} {v : Value} {xs : List Rf.Nd} (h : Rf.NV w v xs) (hz : w.heap.size ≤ w'.heap.size) (hb : ∀ b, b < w.heap.size → w'.heap[b]? = w.heap[b]?) : Rf.NV w' v xs := by
 obtain ⟨p, cap, e, hle, hx⟩ := h
 refine ⟨p, cap, e, hle, fun h0 => ?_⟩
 obtain ⟨b, o, hp, hlt, hc⟩ := hx h0
 exact ⟨b, o, hp, zq17, fun i x hi j hj => by rw [← hc i x hi j hj]; exact World.cell?_of_block (hb b hlt)⟩
theorem nv_aside {w : World} {p : Option Addr} {n cap : Nat} {xs : List Rf.Nd} (h : Rf.NV w (.slice p n cap) xs) {a : Addr} (u : Value) (hn : ∀ b, p = some b → b.block ≠ a.block) : Rf.NV (w.setCell a u) (.slice p n cap) xs := by
 obtain ⟨p', cap', e, hle, hx⟩ := h
 refine ⟨p', cap', e, hle, fun h0 => ?_⟩
 obtain ⟨b, o, hp, hlt, hc⟩ := hx h0
 cases e
 exact ⟨b, o, hp, by simpa [World.setCell] using hlt, fun i x hi j hj => by rw [← hc i x hi j hj]; exact World.cell?_of_block (Below.heap_setCell w a u b (hn _ hp))⟩
theorem nodes_few {K : ByteArray → Bool} {T : ByteArray → List Bool → Bool} {x : ByteArray} : (nodesOf (readS K T (toks x))).length ≤ 1024 := by
 cases h : readS K T (toks x) with
 | error e => simp [nodesOf]
 | ok ns =>
  have := read_may h
  show ns.length ≤ 1024
  unfold Rf.chkI Rf.measN at this
  by_cases h2 : 1024 < ns.length
  ·rw [if_pos h2] at this; simp at this
  ·omega
theorem code_is {K : ByteArray → Bool} {T : ByteArray → List Bool → Bool} {x : ByteArray} : (codeOf (readS K T (toks x)) = 0 ∧ atOf (readS K T (toks x)) = 0) ∨ (codeOf (readS K T (toks x)) ≠ 0 ∧ 0 ≤ atOf (readS K T (toks x)) ∧ atOf (readS K T (toks x)) ≤ x.size) := by
 cases h : readS K T (toks x) with
 | error e =>
  obtain ⟨c, a⟩ := e
  obtain ⟨h1, h2, h3⟩ := read_wrong h
  exact .inr ⟨by show c ≠ 0; omega, h2, h3⟩
 | ok ns => exact .inl ⟨rfl, rfl⟩
end Go.Proofs.YtcmjhjnpcogmgaaGreatDoor
namespace Go.Proofs.YtcmjhjnpcogmgaaGreatDoor
open Go.Shelf Go.RowKit
theorem blank_r {K : ByteArray → Bool} {T : ByteArray → List Bool → Bool} {x : ByteArray} (A : Nat) : nodesOf (farR A (readS K T (toks x))) = nodesOf (readS K T (toks x)) ∧ codeOf (farR A (readS K T (toks x))) = codeOf (readS K T (toks x)) ∧
  atOf (farR A (readS K T (toks x))) = (if codeOf (readS K T (toks x)) ≠ 0 ∧ (A : Int) ≤ atOf (readS K T (toks x)) then atOf (readS K T (toks x)) + 1 else atOf (readS K T (toks x))) := by
 cases h : readS K T (toks x) with
 | ok ns => exact ⟨rfl, rfl, by show (0 : Int) = _; simp [codeOf]; rfl⟩
 | error e =>
  obtain ⟨c, a⟩ := e
  have hc := (read_wrong h).1
  refine ⟨rfl, rfl, ?_⟩
  show far A a = (if c ≠ 0 ∧ (A : Int) ≤ a then a + 1 else a)
  unfold far
  by_cases ha : (A : Int) ≤ a
  ·rw [if_pos ha, if_pos ⟨zq17, ha⟩]
  ·rw [if_neg ha, if_neg (fun h => ha h.2)]
theorem rem_cases6 (which : Int) (n : Nat) (hn : 0 < n) : ∃ K : Nat, K < n ∧ ((which.tmod n = (K : Int)) ∨ (which.tmod n = (K : Int) - n ∧ which.tmod n < 0)) := by
 have h1 := Int.tmod_lt_of_pos which (b := (n : Int)) zq17
 have h2 := Int.lt_tmod_of_pos which (b := (n : Int)) zq17
 by_cases h : 0 ≤ which.tmod n
 ·exact ⟨(which.tmod n).toNat, zq17, .inl zq17⟩
 ·exact ⟨(which.tmod n + n).toNat, zq17, .inr ⟨zq17, zq17⟩⟩
theorem blanks6_n (w : World) (x : ByteArray) (hx : x.size + 1 ≤ 1048576) (fp : Option Addr) (fn fc : Nat) (fl : List Fu) (hF : FV w (.slice fp fn fc) fl) (hfl : fl.length ≤ 140737488355328) (hsz : ∀ y ∈ fl, y.kinds.size ≤ 281474976710656 ∧ y.name.size ≤ 281474976710656) (which : Int) (hS : Sgn w) (hN : Vv.Nam w) (hM : Mx w) (hF0 : isF x = false) : Calls Tryz.prog 5 #[.string x, .slice fp fn fc, .int .i64 which] w fun e w' => e = .returned (.bool true) ∧ Below w.heap.size w w' := by
 have HP : Hid (∀ w1, Below w.heap.size w w1 → Calls Tryz.prog 9 #[.string x, .iface 29 (.slice fp fn fc)] w1 (ParseP w1 (readS (knownB fl) (takesB fl) (toks x)))) := fun w1 hb =>
  prs_any x fp fn fc fl w1 zq17 (by have := toks_len x; omega) (fun t ht => by have := toks_str x t ht; omega) (hF.keep hb) hfl (fun y hy => (hsz y hy).1) (hS.of (hb.block _ hS.lt)) (hN.stays hb) (hM.stays hb)
 have HK : Hid (∀ w1, Below w.heap.size w w1 → Calls Tryz.prog 12 #[] w1 fun e w' => e = .returned (.bool true) ∧ Below w1.heap.size w1 w') := fun w1 hb => known6_any w1 (hS.of (hb.block _ hS.lt)) (hN.stays hb) (hM.stays hb)
 have HL : Hid (∀ w1, Calls Tryz.prog 14 #[.string x] w1 fun e w' => ∃ v, e = .returned v ∧ IsTs w' w1.heap.size v (toks x) ∧ Below w1.heap.size w1 w') := fun w1 => rlex x w1 zq17
 have HG0 : Hid (0 < (toks x).length) := (good_toks x).pos
 clear hS hN hM hF hfl hsz
 have ht : toks x = [tk0 8] := by unfold toks; rw [hF0]; rfl
 have hr : readS (knownB fl) (takesB fl) (toks x) = .error (8, 0) := by rw [ht]; rfl
 rw [hr] at HP
 obtain ⟨ns, hns⟩ : ∃ ns, nodesOf (.error (8, 0) : Except (Int × Int) (List Rf.Nd)) = ns := ⟨_, rfl⟩
 clear hr ht
 by_cases he : x.toList = []
 ·have he2 : (x.toList == []) = true := by rw [he]; rfl
  go_enter Tryz.func5, Tryz.ntmps5
  go_wp2_with (first | (go_at_call 9; refine (HP.out _ zq1).mono ?_; clear HP; intro e w1 hp1; obtain ⟨p1, n1, c1, rfl, hv1, _, hb1⟩ := hp1.uni; rw [hns] at hv1; simp only [codeOf, atOf]; clear hp1; have hB1 := bux w zq1 hb1; have hz1 : w.heap.size ≤ w1.heap.size := hB1.size) | (go_at_call 14; refine (HL.out _).mono ?_; clear HL; rintro e w2 ⟨v2, rfl, hT2, hb2⟩; obtain ⟨g2, cap2, rfl, hg2, hgl2, hc2, _, hcap2⟩ := hT2.form HG0.out; clear hT2; have hB2 := bux w zq1 hb2; have hz2 : w.heap.size ≤ w2.heap.size := hB2.size; have oF : Own w2 w1.heap.size #[.slice p1 n1 c1] := Own.keep zq4 hb2; have hV2 : Rf.NV w2 (.slice p1 n1 c1) ns := Rf.View.keep hv1 (bup zq1 hb2); have hz12 : w1.heap.size < w2.heap.size := Nat.lt_of_lt_of_le (by simp) hb2.size) | (go_at_call 12; refine (HK.out _ zq1).mono ?_; clear HK; rintro e w3 ⟨rfl, hb3⟩; have hB3 : Below w.heap.size w w3 := bup hB2 hb3; have hz3 : w2.heap.size ≤ w3.heap.size := hb3.size; have oF3 : Own w3 w1.heap.size #[.slice p1 n1 c1] := Own.keep oF hb3; have cF := oF3.cell; have lF := oF3.lt; have hV3 : Rf.NV w3 (.slice p1 n1 c1) ns := Rf.View.keep hV2 hb3; clear hV2 oF))
  go_ret
  exact ⟨rfl, zq1⟩
 ·have he2 : (x.toList == []) = false := by simpa using he
  have h1 : 0 < x.size := by
   rw [size_len]; refine List.length_pos_iff.2 (fun e => he ?_); rw [toL]; exact e
  have h1' : (0 : Int) < x.size := by omega
  have h61 : ((x[0].toNat : Int) != 61) = true := by
   have hll : 0 < x.data.toList.length := by rw [← size_len]; exact h1
   have hl : x.data.toList = x[0] :: x.data.toList.drop 1 := by
    have h := List.drop_eq_getElem_cons hll
    rw [byte_at x 0 h1 hll] at h
    exact h
   simp only [bne_iff_ne, ne_eq]
   intro h
   have e : x[0] = 61 := UInt8.toNat_inj.1 (by show x[0].toNat = 61; omega)
   unfold isF at hF0
   rw [hl, e] at hF0
   cases hF0
  go_enter Tryz.func5, Tryz.ntmps5
  go_wp2_with (first | (go_at_call 9; refine (HP.out _ zq1).mono ?_; clear HP; intro e w1 hp1; obtain ⟨p1, n1, c1, rfl, hv1, _, hb1⟩ := hp1.uni; rw [hns] at hv1; simp only [codeOf, atOf]; clear hp1; have hB1 := bux w zq1 hb1; have hz1 : w.heap.size ≤ w1.heap.size := hB1.size) | (go_at_call 14; refine (HL.out _).mono ?_; clear HL; rintro e w2 ⟨v2, rfl, hT2, hb2⟩; obtain ⟨g2, cap2, rfl, hg2, hgl2, hc2, _, hcap2⟩ := hT2.form HG0.out; clear hT2; have hB2 := bux w zq1 hb2; have hz2 : w.heap.size ≤ w2.heap.size := hB2.size; have oF : Own w2 w1.heap.size #[.slice p1 n1 c1] := Own.keep zq4 hb2; have hV2 : Rf.NV w2 (.slice p1 n1 c1) ns := Rf.View.keep hv1 (bup zq1 hb2); have hz12 : w1.heap.size < w2.heap.size := Nat.lt_of_lt_of_le (by simp) hb2.size) | (go_at_call 12; refine (HK.out _ zq1).mono ?_; clear HK; rintro e w3 ⟨rfl, hb3⟩; have hB3 : Below w.heap.size w w3 := bup hB2 hb3; have hz3 : w2.heap.size ≤ w3.heap.size := hb3.size; have oF3 : Own w3 w1.heap.size #[.slice p1 n1 c1] := Own.keep oF hb3; have cF := oF3.cell; have lF := oF3.lt; have hV3 : Rf.NV w3 (.slice p1 n1 c1) ns := Rf.View.keep hV2 hb3; clear hV2 oF))
  go_ret
  exact ⟨rfl, zq1⟩
theorem blanks6_f (w : World) (x : ByteArray) (hx : x.size + 1 ≤ 1048576) (fp : Option Addr) (fn fc : Nat) (fl : List Fu) (hF : FV w (.slice fp fn fc) fl) (hfl : fl.length ≤ 140737488355328) (hsz : ∀ y ∈ fl, y.kinds.size ≤ 281474976710656 ∧ y.name.size ≤ 281474976710656) (which : Int) (hwh : Vv.I64 which) (hS : Sgn w) (hN : Vv.Nam w) (hM : Mx w) (hF0 : isF x = true) : Calls Tryz.prog 5 #[.string x, .slice fp fn fc, .int .i64 which] w fun e w' => e = .returned (.bool true) ∧ Below w.heap.size w w' := by
 have HP : Hid (∀ w1, Below w.heap.size w w1 → Calls Tryz.prog 9 #[.string x, .iface 29 (.slice fp fn fc)] w1 (ParseP w1 (readS (knownB fl) (takesB fl) (toks x)))) := fun w1 hb =>
  prs_any x fp fn fc fl w1 zq17 (by have := toks_len x; omega) (fun t ht => by have := toks_str x t ht; omega) (hF.keep hb) hfl (fun y hy => (hsz y hy).1) (hS.of (hb.block _ hS.lt)) (hN.stays hb) (hM.stays hb)
 have HP2 : Hid (∀ w1 (y : ByteArray), y.size ≤ x.size + 1 → Below w.heap.size w w1 → Calls Tryz.prog 9 #[.string y, .iface 29 (.slice fp fn fc)] w1 (ParseP w1 (readS (knownB fl) (takesB fl) (toks y)))) := fun w1 y hy hb =>
  prs_any y fp fn fc fl w1 zq17 (by have := toks_len y; omega) (fun t ht => by have := toks_str y t ht; omega) (hF.keep hb) hfl (fun y hy => (hsz y hy).1) (hS.of (hb.block _ hS.lt)) (hN.stays hb) (hM.stays hb)
 have HK : Hid (∀ w1, Below w.heap.size w w1 → Calls Tryz.prog 12 #[] w1 fun e w' => e = .returned (.bool true) ∧ Below w1.heap.size w1 w') := fun w1 hb => known6_any w1 (hS.of (hb.block _ hS.lt)) (hN.stays hb) (hM.stays hb)
 have HL : Hid (∀ w1, Calls Tryz.prog 14 #[.string x] w1 fun e w' => ∃ v, e = .returned v ∧ IsTs w' w1.heap.size v (toks x) ∧ Below w1.heap.size w1 w') := fun w1 => rlex x w1 zq17
 have HG0 : Hid (0 < (toks x).length) := (good_toks x).pos
 clear hS hN hM hF hfl hsz
 have hz0 : 0 < x.size := by
  rw [size_len]
  cases hl : x.data.toList with
  | nil => unfold isF at hF0; rw [hl] at hF0; cases hF0
  | cons c t => simp
 have hz1' : (0 : Int) < x.size := by omega
 have hll : 0 < x.data.toList.length := by rw [← size_len]; exact hz0
 have hl : x.data.toList = x[0] :: x.data.toList.drop 1 := by
  have h := List.drop_eq_getElem_cons hll
  rw [byte_at x 0 hz0 hll] at h
  exact h
 have he2 : (x.toList == []) = false := by rw [toL, hl]; rfl
 have h61 : ((x[0].toNat : Int) != 61) = false := by
  have e : x[0] = 61 := by
   unfold isF at hF0
   rw [hl] at hF0
   have : (61 : UInt8) = x[0] := by simpa [List.isPrefixOf] using hF0
   exact this.symm
  rw [e]; rfl
 have HG : Hid _ := good_toks x
 have HRB : Hid (∀ (k a : Nat) (t : Tk), (toks x)[k]? = some t → t.at' = (a : Int) → 1 ≤ a ∧ a ≤ x.size ∧ readS (knownB fl) (takesB fl) (toks (x.extract 0 a ++ ⟨#[32]⟩ ++ x.extract a x.size)) = farR a (readS (knownB fl) (takesB fl) (toks x))) := fun k a t h1 h2 => read_blank hF0 h1 h2
 have hcode := code_is (K := knownB fl) (T := takesB fl) (x := x)
 have hfew := nodes_few (K := knownB fl) (T := takesB fl) (x := x)
 have hlen := toks_len x
 have hbl0 := fun a => blank_r (K := knownB fl) (T := takesB fl) (x := x) a
 clear hF0
 obtain ⟨ts, hts⟩ : ∃ ts, toks x = ts := ⟨_, rfl⟩
 obtain ⟨r, hr⟩ : ∃ r, readS (knownB fl) (takesB fl) (toks x) = r := ⟨_, rfl⟩
 rw [hr] at HP hcode hfew hbl0
 have HRB' : Hid (∀ (k a : Nat) (t : Tk), ts[k]? = some t → t.at' = (a : Int) → 1 ≤ a ∧ a ≤ x.size ∧ readS (knownB fl) (takesB fl) (toks (x.extract 0 a ++ ⟨#[32]⟩ ++ x.extract a x.size)) = farR a r) := by rw [← hr, ← hts]; exact HRB.out
 clear HRB hr
 rw [hts] at HL HG hlen HG0
 obtain ⟨m, hm⟩ : ∃ m, ts.length = m + 1 := ⟨ts.length - 1, by have := HG.out.pos; omega⟩
 clear HG0 hts
 have hm' : m ≤ x.size := by omega
 obtain ⟨K, hK, hrem⟩ := rem_cases6 which (m + 1) zq17
 have hcast : (((m + 1 : Nat)) : Int) = (m : Int) + 1 := by omega
 rw [hcast] at hrem
 have hdz : ¬ (m : Int) + 1 = 0 := by omega
 have htK : ts[K]? = some ts[K] := List.getElem?_eq_getElem zq17
 have hgK := HG.out.at htK
 obtain ⟨A, ha⟩ : ∃ a : Nat, ts[K].at' = (a : Int) := ⟨ts[K].at'.toNat, by have := hgK.1; omega⟩
 obtain ⟨hA1, hAs, hrb⟩ := HRB'.out K A _ htK ha
 clear HRB' hgK HG
 have HTK : Hid _ := htK
 clear htK
 revert ha HTK
 generalize ts[K] = tK
 intro ha HTK
 obtain ⟨ns, hns⟩ : ∃ ns, nodesOf r = ns := ⟨_, rfl⟩
 obtain ⟨c, hcd⟩ : ∃ c, codeOf r = c := ⟨_, rfl⟩
 obtain ⟨a, hat⟩ : ∃ a, atOf r = a := ⟨_, rfl⟩
 have hbl := hbl0 A
 clear hbl0
 rw [hns, hcd, hat] at hbl
 rw [hns] at hfew
 rw [hcd, hat] at hcode
 have hx2s : (x.extract 0 A ++ ⟨#[32]⟩ ++ x.extract A x.size).size ≤ x.size + 1 := by simp [ByteArray.size_append, ByteArray.size_extract]; have e1 : (⟨#[32]⟩ : ByteArray).size = 1 := rfl; omega
 have HQ : Hid (∀ w1, Below w.heap.size w w1 → Calls Tryz.prog 9 #[.string (x.extract 0 A ++ ⟨#[32]⟩ ++ x.extract A x.size), .iface 29 (.slice fp fn fc)] w1 fun e w' => ∃ p n cap, e = .returned (.tuple #[.agg #[.slice p n cap], .int .i64 c, .int .i64 (if c ≠ 0 ∧ (A : Int) ≤ a then a + 1 else a)]) ∧ Rf.NV w' (.slice p n cap) ns ∧ (∀ a, p = some a → w1.heap.size ≤ a.block) ∧ Below w1.heap.size w1 w') := fun w1 hb => by
  have h := HP2.out w1 _ hx2s hb
  rw [hrb] at h
  refine h.mono fun e w' hp => ?_
  obtain ⟨p, n, cap, h1, h2, h4, h3⟩ := hp.uni
  obtain ⟨e1, e2, e3⟩ := hbl
  rw [e1] at h2
  rw [e2, e3] at h1
  exact ⟨p, n, cap, h1, h2, h4, h3⟩
 clear HP2 hrb hbl hx2s
 have mixed : Tryz.prog.follows .mixedOrders = true := by kernel_rfl
 have hKi : ¬ (K : Int) < 0 := by omega
 have hKm : (K : Int) < (m : Int) + 1 := by omega
 have hwK : IntKind.i64.wrap (K : Int) = (K : Int) := by rw [IntKind.wrap_i64]; omega
 have hwm : IntKind.i64.wrap (m : Int) = (m : Int) := by rw [IntKind.wrap_i64]; omega
 have hAs' : ¬ (x.size : Int) < (A : Int) := by omega
 have hA0 : ¬ (A : Int) < 0 := by omega
 have hsa : (x.extract 0 A).size ≤ x.size := ext_size0 x A
 have hsb : (x.extract A x.size).size ≤ x.size := ext_size x A
 have hcat : ¬ (9223372036854775807 < (x.extract 0 A).size + 1) := by omega
 have hcat1 : ¬ (9223372036854775807 < min A x.size + 1) := by omega
 have hcat2 : ¬ (9223372036854775807 < min A x.size + 1 + (x.size - A)) := by omega
 have hcat3 : ¬ (9223372036854775807 < A + 1) := by omega
 have hcat4 : ¬ (9223372036854775807 < A + 1 + (x.size - A)) := by omega
 have hmnA : min A x.size = A := by omega
 have hSM : Hid (∀ w1 va vb, Rf.NV w1 va ns → Rf.NV w1 vb ns → Calls Tryz.prog 11 #[.agg #[va], .agg #[vb]] w1 fun e w' => e = .returned (.bool true) ∧ Below w1.heap.size w1 w') := fun w1 va vb h1 h2 => by
  have h := Rf.lsame_any w1 va vb ns ns h1 h2 zq17
  rwa [Rf.sameL_refl] at h
 clear hfew
 rcases hcode with ⟨rfl, rfl⟩ | ⟨hc0, ha0, han⟩
 ·have hg0 : ((0 : Int) != 0) = false := rfl
  have HQ' : Hid (∀ w1, Below w.heap.size w w1 → Calls Tryz.prog 9 #[.string (x.extract 0 A ++ ⟨#[32]⟩ ++ x.extract A x.size), .iface 29 (.slice fp fn fc)] w1 fun e w' => ∃ p n cap, e = .returned (.tuple #[.agg #[.slice p n cap], .int .i64 0, .int .i64 0]) ∧ Rf.NV w' (.slice p n cap) ns ∧ (∀ a, p = some a → w1.heap.size ≤ a.block) ∧ Below w1.heap.size w1 w') := fun w1 hb => by have h := HQ.out w1 hb; simpa using h
  clear HQ
  rcases hrem with hrem | ⟨hrem, hneg⟩
  ·go_enter Tryz.func5, Tryz.ntmps5
   go_wp2_with (first | (go_at_call 9; refine (HP.out _ zq1).mono ?_; clear HP; intro e w1 hp1; obtain ⟨p1, n1, c1, rfl, hv1, _, hb1⟩ := hp1.uni; rw [hns] at hv1; rw [hcd, hat]; clear hp1; have hB1 := bux w zq1 hb1; have hz1 : w.heap.size ≤ w1.heap.size := hB1.size) | (go_at_call 14; refine (HL.out _).mono ?_; clear HL; rintro e w2 ⟨v2, rfl, hT2, hb2⟩; obtain ⟨g2, cap2, rfl, hg2, hgl2, hc2, _, hcap2⟩ := hT2.form (by rw [hm]; omega); rw [hm] at hcap2 ⊢; have xA : w2.cell? ⟨g2, K * 11 + 1, none⟩ = some (.int .i64 (A : Int)) := (hc2 K _ HTK.out 1 zq16).trans (by show some (Value.int .i64 tK.at') = _; rw [ha]); clear hT2 hc2; have hB2 := bux w zq1 hb2; have hz2 : w.heap.size ≤ w2.heap.size := hB2.size; have oF : Own w2 w1.heap.size #[.slice p1 n1 c1] := Own.keep zq4 hb2; have hV2 : Rf.NV w2 (.slice p1 n1 c1) ns := Rf.View.keep hv1 (bup zq1 hb2); have hz12 : w1.heap.size < w2.heap.size := Nat.lt_of_lt_of_le (by simp) hb2.size) | (go_at_call 12; refine (HK.out _ zq1).mono ?_; clear HK; rintro e w3 ⟨rfl, hb3⟩; have hB3 : Below w.heap.size w w3 := bup hB2 hb3; have hz3 : w2.heap.size ≤ w3.heap.size := hb3.size; have oF3 : Own w3 w1.heap.size #[.slice p1 n1 c1] := Own.keep oF hb3; have cF := oF3.cell; have lF := oF3.lt; have hV3 : Rf.NV w3 (.slice p1 n1 c1) ns := Rf.View.keep hV2 hb3; have xA3 : w3.cell? ⟨g2, K * 11 + 1, none⟩ = some (.int .i64 (A : Int)) := (hb3.cell (p := ⟨g2, K * 11 + 1, none⟩) (by show g2 < _; omega)).trans xA; clear hV2 oF))
   go_region_held3 (fun w' => w'.cell? ⟨g2, K * 11 + 1, none⟩ = some (.int .i64 (A : Int))) (((repeat' apply And.intro) <;> (first | (go_keep; done) | (go_simp; done)))) ((go_at_call 9; refine (HQ'.out _ zq1).mono ?_; rintro e w5 ⟨p5, n5, c5, rfl, hv5, hq5, hb5⟩; have hB5 := bux w zq1 hb5; have hA5 : Below w3.heap.size w3 w5 := bup zq1 hb5; have xA5 : w5.cell? ⟨g2, K * 11 + 1, none⟩ = some (.int .i64 (A : Int)) := (hA5.cell (p := ⟨g2, K * 11 + 1, none⟩) (by show g2 < _; omega)).trans xA3; have hz5 : w3.heap.size ≤ w5.heap.size := hA5.size; try (refine Rf.with_fact (p := Own w5 w3.heap.size #[.slice none 0 0]) ?_ ?_; (· (refine Own.keep ?_ hb5; with_reducible (repeat' first | assumption | refine Own.drew ?_ | refine Own.drewN ?_ _ | (refine Own.at ?_; first | rfl | (simp; done)) | refine Own.past ?_ _ | refine Own.aside ?_ zq13 _); done)); intro oN; have cN := oN.cell; have fN := oN.fro; have lN := oN.lt)))
   ·obtain ⟨W6, hW6⟩ : ∃ W6, (w5.alloc (.cells #[.slice p5 n5 c5] 25)) = W6 := ⟨_, rfl⟩
    have o6 : Own W6 w5.heap.size #[.slice p5 n5 c5] := by rw [← hW6]; exact Own.new _ _ _
    have kV : ∀ b, b < w5.heap.size → W6.heap[b]? = w5.heap[b]? := fun b hb => by rw [← hW6]; exact Below.heap_alloc w5 _ b hb
    have hVb : Rf.NV W6 (.slice p5 n5 c5) ns := by rw [← hW6]; exact Rf.View.keep hv5 (bal _ _)
    have hVa : Rf.NV W6 (.slice p1 n1 c1) ns := by rw [← hW6]; exact Rf.View.keep (Rf.View.keep hV3 hA5) (bal _ _)
    have hz6 : w5.heap.size ≤ W6.heap.size := by rw [← hW6]; simp
    have hB6 : Below w.heap.size w W6 := by rw [← hW6]; exact hB5.alloc zq17 _
    have oF6 : Own W6 w1.heap.size #[.slice p1 n1 c1] := (oF3.keep hA5).of_block (kV _ zq17)
    have xA6 : W6.cell? ⟨g2, K * 11 + 1, none⟩ = some (.int .i64 (A : Int)) := (World.cell?_of_block (kV g2 zq17)).trans xA5
    have c6 := o6.cell
    have l6 := o6.lt
    have cF6 := oF6.cell
    have lF6 := oF6.lt
    rw [hW6]
    clear hW6 xA5 xA3 cF
    go_wp2_with (go_at_call 11; refine (hSM.out _ _ _ hVa hVb).mono ?_; rintro e w7 ⟨rfl, hb7⟩; have hB7 : Below w.heap.size w w7 := bup hB6 hb7)
    go_ret
    exact ⟨rfl, zq1⟩
   ·obtain ⟨W6, hW6⟩ : ∃ W6, (w5.setCell ⟨w3.heap.size, 0, none⟩ (.slice p5 n5 c5)) = W6 := ⟨_, rfl⟩
    have o6 : Own W6 w3.heap.size #[.slice p5 n5 c5] := by rw [← hW6]; exact Rf.own_put (k := 0) oN (by simp)
    have kV : ∀ b, b < w5.heap.size → b ≠ w3.heap.size → W6.heap[b]? = w5.heap[b]? := fun b _ hn => by rw [← hW6]; exact Below.heap_setCell w5 _ _ b hn
    have hVb : Rf.NV W6 (.slice p5 n5 c5) ns := by rw [← hW6]; exact nv_aside hv5 _ (fun b hb => by have := hq5 b hb; simp at this; show b.block ≠ w3.heap.size; omega)
    have hVa : Rf.NV W6 (.slice p1 n1 c1) ns := nv_same hV3 (by rw [← hW6]; simpa [World.setCell] using hz5) (fun b hb => (kV b zq17 zq17).trans (hA5.block b hb))
    have hz6 : w5.heap.size ≤ W6.heap.size := by rw [← hW6]; simp [World.setCell]
    have hB6 : Below w.heap.size w W6 := by rw [← hW6]; exact hB5.setCell (by show w.heap.size ≤ w3.heap.size; omega) _
    have oF6 : Own W6 w1.heap.size #[.slice p1 n1 c1] := (oF3.keep hA5).of_block (kV _ zq17 zq17)
    have xA6 : W6.cell? ⟨g2, K * 11 + 1, none⟩ = some (.int .i64 (A : Int)) := (World.cell?_of_block (kV g2 zq17 zq17)).trans xA5
    have c6 := o6.cell
    have l6 := o6.lt
    have cF6 := oF6.cell
    have lF6 := oF6.lt
    rw [hW6]
    clear hW6 xA5 xA3 cF
    go_wp2_with (go_at_call 11; refine (hSM.out _ _ _ hVa hVb).mono ?_; rintro e w7 ⟨rfl, hb7⟩; have hB7 : Below w.heap.size w w7 := bup hB6 hb7)
    go_ret
    exact ⟨rfl, zq1⟩
  ·go_enter Tryz.func5, Tryz.ntmps5
   go_wp2_with (first | (go_at_call 9; refine (HP.out _ zq1).mono ?_; clear HP; intro e w1 hp1; obtain ⟨p1, n1, c1, rfl, hv1, _, hb1⟩ := hp1.uni; rw [hns] at hv1; rw [hcd, hat]; clear hp1; have hB1 := bux w zq1 hb1; have hz1 : w.heap.size ≤ w1.heap.size := hB1.size) | (go_at_call 14; refine (HL.out _).mono ?_; clear HL; rintro e w2 ⟨v2, rfl, hT2, hb2⟩; obtain ⟨g2, cap2, rfl, hg2, hgl2, hc2, _, hcap2⟩ := hT2.form (by rw [hm]; omega); rw [hm] at hcap2 ⊢; have xA : w2.cell? ⟨g2, K * 11 + 1, none⟩ = some (.int .i64 (A : Int)) := (hc2 K _ HTK.out 1 zq16).trans (by show some (Value.int .i64 tK.at') = _; rw [ha]); clear hT2 hc2; have hB2 := bux w zq1 hb2; have hz2 : w.heap.size ≤ w2.heap.size := hB2.size; have oF : Own w2 w1.heap.size #[.slice p1 n1 c1] := Own.keep zq4 hb2; have hV2 : Rf.NV w2 (.slice p1 n1 c1) ns := Rf.View.keep hv1 (bup zq1 hb2); have hz12 : w1.heap.size < w2.heap.size := Nat.lt_of_lt_of_le (by simp) hb2.size) | (go_at_call 12; refine (HK.out _ zq1).mono ?_; clear HK; rintro e w3 ⟨rfl, hb3⟩; have hB3 : Below w.heap.size w w3 := bup hB2 hb3; have hz3 : w2.heap.size ≤ w3.heap.size := hb3.size; have oF3 : Own w3 w1.heap.size #[.slice p1 n1 c1] := Own.keep oF hb3; have cF := oF3.cell; have lF := oF3.lt; have hV3 : Rf.NV w3 (.slice p1 n1 c1) ns := Rf.View.keep hV2 hb3; have xA3 : w3.cell? ⟨g2, K * 11 + 1, none⟩ = some (.int .i64 (A : Int)) := (hb3.cell (p := ⟨g2, K * 11 + 1, none⟩) (by show g2 < _; omega)).trans xA; clear hV2 oF))
   go_region_held3 (fun w' => w'.cell? ⟨g2, K * 11 + 1, none⟩ = some (.int .i64 (A : Int))) (((repeat' apply And.intro) <;> (first | (go_keep; done) | (go_simp; done)))) ((go_at_call 9; refine (HQ'.out _ zq1).mono ?_; rintro e w5 ⟨p5, n5, c5, rfl, hv5, hq5, hb5⟩; have hB5 := bux w zq1 hb5; have hA5 : Below w3.heap.size w3 w5 := bup zq1 hb5; have xA5 : w5.cell? ⟨g2, K * 11 + 1, none⟩ = some (.int .i64 (A : Int)) := (hA5.cell (p := ⟨g2, K * 11 + 1, none⟩) (by show g2 < _; omega)).trans xA3; have hz5 : w3.heap.size ≤ w5.heap.size := hA5.size; try (refine Rf.with_fact (p := Own w5 w3.heap.size #[.slice none 0 0]) ?_ ?_; (· (refine Own.keep ?_ hb5; with_reducible (repeat' first | assumption | refine Own.drew ?_ | refine Own.drewN ?_ _ | (refine Own.at ?_; first | rfl | (simp; done)) | refine Own.past ?_ _ | refine Own.aside ?_ zq13 _); done)); intro oN; have cN := oN.cell; have fN := oN.fro; have lN := oN.lt)))
   ·obtain ⟨W6, hW6⟩ : ∃ W6, (w5.alloc (.cells #[.slice p5 n5 c5] 25)) = W6 := ⟨_, rfl⟩
    have o6 : Own W6 w5.heap.size #[.slice p5 n5 c5] := by rw [← hW6]; exact Own.new _ _ _
    have kV : ∀ b, b < w5.heap.size → W6.heap[b]? = w5.heap[b]? := fun b hb => by rw [← hW6]; exact Below.heap_alloc w5 _ b hb
    have hVb : Rf.NV W6 (.slice p5 n5 c5) ns := by rw [← hW6]; exact Rf.View.keep hv5 (bal _ _)
    have hVa : Rf.NV W6 (.slice p1 n1 c1) ns := by rw [← hW6]; exact Rf.View.keep (Rf.View.keep hV3 hA5) (bal _ _)
    have hz6 : w5.heap.size ≤ W6.heap.size := by rw [← hW6]; simp
    have hB6 : Below w.heap.size w W6 := by rw [← hW6]; exact hB5.alloc zq17 _
    have oF6 : Own W6 w1.heap.size #[.slice p1 n1 c1] := (oF3.keep hA5).of_block (kV _ zq17)
    have xA6 : W6.cell? ⟨g2, K * 11 + 1, none⟩ = some (.int .i64 (A : Int)) := (World.cell?_of_block (kV g2 zq17)).trans xA5
    have c6 := o6.cell
    have l6 := o6.lt
    have cF6 := oF6.cell
    have lF6 := oF6.lt
    rw [hW6]
    clear hW6 xA5 xA3 cF
    go_wp2_with (go_at_call 11; refine (hSM.out _ _ _ hVa hVb).mono ?_; rintro e w7 ⟨rfl, hb7⟩; have hB7 : Below w.heap.size w w7 := bup hB6 hb7)
    go_ret
    exact ⟨rfl, zq1⟩
   ·obtain ⟨W6, hW6⟩ : ∃ W6, (w5.setCell ⟨w3.heap.size, 0, none⟩ (.slice p5 n5 c5)) = W6 := ⟨_, rfl⟩
    have o6 : Own W6 w3.heap.size #[.slice p5 n5 c5] := by rw [← hW6]; exact Rf.own_put (k := 0) oN (by simp)
    have kV : ∀ b, b < w5.heap.size → b ≠ w3.heap.size → W6.heap[b]? = w5.heap[b]? := fun b _ hn => by rw [← hW6]; exact Below.heap_setCell w5 _ _ b hn
    have hVb : Rf.NV W6 (.slice p5 n5 c5) ns := by rw [← hW6]; exact nv_aside hv5 _ (fun b hb => by have := hq5 b hb; simp at this; show b.block ≠ w3.heap.size; omega)
    have hVa : Rf.NV W6 (.slice p1 n1 c1) ns := nv_same hV3 (by rw [← hW6]; simpa [World.setCell] using hz5) (fun b hb => (kV b zq17 zq17).trans (hA5.block b hb))
    have hz6 : w5.heap.size ≤ W6.heap.size := by rw [← hW6]; simp [World.setCell]
    have hB6 : Below w.heap.size w W6 := by rw [← hW6]; exact hB5.setCell (by show w.heap.size ≤ w3.heap.size; omega) _
    have oF6 : Own W6 w1.heap.size #[.slice p1 n1 c1] := (oF3.keep hA5).of_block (kV _ zq17 zq17)
    have xA6 : W6.cell? ⟨g2, K * 11 + 1, none⟩ = some (.int .i64 (A : Int)) := (World.cell?_of_block (kV g2 zq17 zq17)).trans xA5
    have c6 := o6.cell
    have l6 := o6.lt
    have cF6 := oF6.cell
    have lF6 := oF6.lt
    rw [hW6]
    clear hW6 xA5 xA3 cF
    go_wp2_with (go_at_call 11; refine (hSM.out _ _ _ hVa hVb).mono ?_; rintro e w7 ⟨rfl, hb7⟩; have hB7 : Below w.heap.size w w7 := bup hB6 hb7)
    go_ret
    exact ⟨rfl, zq1⟩
 ·by_cases hAa : (A : Int) ≤ a
  ·have hcn : (c != 0) = true := by simpa using hc0
   have hc0' : ¬ c = 0 := hc0
   have hge : decide ((A : Int) ≤ a) = true := by simpa using hAa
   have hw1 : IntKind.i64.wrap (a + 1) = a + 1 := by rw [IntKind.wrap_i64]; omega
   have HQ' : Hid (∀ w1, Below w.heap.size w w1 → Calls Tryz.prog 9 #[.string (x.extract 0 A ++ ⟨#[32]⟩ ++ x.extract A x.size), .iface 29 (.slice fp fn fc)] w1 fun e w' => ∃ p n cap, e = .returned (.tuple #[.agg #[.slice p n cap], .int .i64 c, .int .i64 (a + 1)]) ∧ Rf.NV w' (.slice p n cap) ns ∧ (∀ a, p = some a → w1.heap.size ≤ a.block) ∧ Below w1.heap.size w1 w') := fun w1 hb => by have h := HQ.out w1 hb; rwa [if_pos ⟨hc0, hAa⟩] at h
   clear HQ
   rcases hrem with hrem | ⟨hrem, hneg⟩
   ·go_enter Tryz.func5, Tryz.ntmps5
    go_wp2_with (first | (go_at_call 9; refine (HP.out _ zq1).mono ?_; clear HP; intro e w1 hp1; obtain ⟨p1, n1, c1, rfl, hv1, _, hb1⟩ := hp1.uni; rw [hns] at hv1; rw [hcd, hat]; clear hp1; have hB1 := bux w zq1 hb1; have hz1 : w.heap.size ≤ w1.heap.size := hB1.size) | (go_at_call 14; refine (HL.out _).mono ?_; clear HL; rintro e w2 ⟨v2, rfl, hT2, hb2⟩; obtain ⟨g2, cap2, rfl, hg2, hgl2, hc2, _, hcap2⟩ := hT2.form (by rw [hm]; omega); rw [hm] at hcap2 ⊢; have xA : w2.cell? ⟨g2, K * 11 + 1, none⟩ = some (.int .i64 (A : Int)) := (hc2 K _ HTK.out 1 zq16).trans (by show some (Value.int .i64 tK.at') = _; rw [ha]); clear hT2 hc2; have hB2 := bux w zq1 hb2; have hz2 : w.heap.size ≤ w2.heap.size := hB2.size; have oF : Own w2 w1.heap.size #[.slice p1 n1 c1] := Own.keep zq4 hb2; have hV2 : Rf.NV w2 (.slice p1 n1 c1) ns := Rf.View.keep hv1 (bup zq1 hb2); have hz12 : w1.heap.size < w2.heap.size := Nat.lt_of_lt_of_le (by simp) hb2.size) | (go_at_call 12; refine (HK.out _ zq1).mono ?_; clear HK; rintro e w3 ⟨rfl, hb3⟩; have hB3 : Below w.heap.size w w3 := bup hB2 hb3; have hz3 : w2.heap.size ≤ w3.heap.size := hb3.size; have oF3 : Own w3 w1.heap.size #[.slice p1 n1 c1] := Own.keep oF hb3; have cF := oF3.cell; have lF := oF3.lt; have hV3 : Rf.NV w3 (.slice p1 n1 c1) ns := Rf.View.keep hV2 hb3; have xA3 : w3.cell? ⟨g2, K * 11 + 1, none⟩ = some (.int .i64 (A : Int)) := (hb3.cell (p := ⟨g2, K * 11 + 1, none⟩) (by show g2 < _; omega)).trans xA; clear hV2 oF))
    go_region_held3 (fun w' => w'.cell? ⟨g2, K * 11 + 1, none⟩ = some (.int .i64 (A : Int))) (((repeat' apply And.intro) <;> (first | (go_keep; done) | (go_simp; done)))) ((go_at_call 9; refine (HQ'.out _ zq1).mono ?_; rintro e w5 ⟨p5, n5, c5, rfl, hv5, hq5, hb5⟩; have hB5 := bux w zq1 hb5; have hA5 : Below w3.heap.size w3 w5 := bup zq1 hb5; have xA5 : w5.cell? ⟨g2, K * 11 + 1, none⟩ = some (.int .i64 (A : Int)) := (hA5.cell (p := ⟨g2, K * 11 + 1, none⟩) (by show g2 < _; omega)).trans xA3; have hz5 : w3.heap.size ≤ w5.heap.size := hA5.size; try (refine Rf.with_fact (p := Own w5 w3.heap.size #[.slice none 0 0]) ?_ ?_; (· (refine Own.keep ?_ hb5; with_reducible (repeat' first | assumption | refine Own.drew ?_ | refine Own.drewN ?_ _ | (refine Own.at ?_; first | rfl | (simp; done)) | refine Own.past ?_ _ | refine Own.aside ?_ zq13 _); done)); intro oN; have cN := oN.cell; have fN := oN.fro; have lN := oN.lt)))
    ·obtain ⟨W6, hW6⟩ : ∃ W6, (w5.alloc (.cells #[.slice p5 n5 c5] 25)) = W6 := ⟨_, rfl⟩
     have o6 : Own W6 w5.heap.size #[.slice p5 n5 c5] := by rw [← hW6]; exact Own.new _ _ _
     have kV : ∀ b, b < w5.heap.size → W6.heap[b]? = w5.heap[b]? := fun b hb => by rw [← hW6]; exact Below.heap_alloc w5 _ b hb
     have hVb : Rf.NV W6 (.slice p5 n5 c5) ns := by rw [← hW6]; exact Rf.View.keep hv5 (bal _ _)
     have hVa : Rf.NV W6 (.slice p1 n1 c1) ns := by rw [← hW6]; exact Rf.View.keep (Rf.View.keep hV3 hA5) (bal _ _)
     have hz6 : w5.heap.size ≤ W6.heap.size := by rw [← hW6]; simp
     have hB6 : Below w.heap.size w W6 := by rw [← hW6]; exact hB5.alloc zq17 _
     have oF6 : Own W6 w1.heap.size #[.slice p1 n1 c1] := (oF3.keep hA5).of_block (kV _ zq17)
     have xA6 : W6.cell? ⟨g2, K * 11 + 1, none⟩ = some (.int .i64 (A : Int)) := (World.cell?_of_block (kV g2 zq17)).trans xA5
     have c6 := o6.cell
     have l6 := o6.lt
     have cF6 := oF6.cell
     have lF6 := oF6.lt
     rw [hW6]
     clear hW6 xA5 xA3 cF
     go_wp2_with (go_at_call 11; refine (hSM.out _ _ _ hVa hVb).mono ?_; rintro e w7 ⟨rfl, hb7⟩; have hB7 : Below w.heap.size w w7 := bup hB6 hb7)
     go_ret
     exact ⟨rfl, zq1⟩
    ·obtain ⟨W6, hW6⟩ : ∃ W6, (w5.setCell ⟨w3.heap.size, 0, none⟩ (.slice p5 n5 c5)) = W6 := ⟨_, rfl⟩
     have o6 : Own W6 w3.heap.size #[.slice p5 n5 c5] := by rw [← hW6]; exact Rf.own_put (k := 0) oN (by simp)
     have kV : ∀ b, b < w5.heap.size → b ≠ w3.heap.size → W6.heap[b]? = w5.heap[b]? := fun b _ hn => by rw [← hW6]; exact Below.heap_setCell w5 _ _ b hn
     have hVb : Rf.NV W6 (.slice p5 n5 c5) ns := by rw [← hW6]; exact nv_aside hv5 _ (fun b hb => by have := hq5 b hb; simp at this; show b.block ≠ w3.heap.size; omega)
     have hVa : Rf.NV W6 (.slice p1 n1 c1) ns := nv_same hV3 (by rw [← hW6]; simpa [World.setCell] using hz5) (fun b hb => (kV b zq17 zq17).trans (hA5.block b hb))
     have hz6 : w5.heap.size ≤ W6.heap.size := by rw [← hW6]; simp [World.setCell]
     have hB6 : Below w.heap.size w W6 := by rw [← hW6]; exact hB5.setCell (by show w.heap.size ≤ w3.heap.size; omega) _
     have oF6 : Own W6 w1.heap.size #[.slice p1 n1 c1] := (oF3.keep hA5).of_block (kV _ zq17 zq17)
     have xA6 : W6.cell? ⟨g2, K * 11 + 1, none⟩ = some (.int .i64 (A : Int)) := (World.cell?_of_block (kV g2 zq17 zq17)).trans xA5
     have c6 := o6.cell
     have l6 := o6.lt
     have cF6 := oF6.cell
     have lF6 := oF6.lt
     rw [hW6]
     clear hW6 xA5 xA3 cF
     go_wp2_with (go_at_call 11; refine (hSM.out _ _ _ hVa hVb).mono ?_; rintro e w7 ⟨rfl, hb7⟩; have hB7 : Below w.heap.size w w7 := bup hB6 hb7)
     go_ret
     exact ⟨rfl, zq1⟩
   ·go_enter Tryz.func5, Tryz.ntmps5
    go_wp2_with (first | (go_at_call 9; refine (HP.out _ zq1).mono ?_; clear HP; intro e w1 hp1; obtain ⟨p1, n1, c1, rfl, hv1, _, hb1⟩ := hp1.uni; rw [hns] at hv1; rw [hcd, hat]; clear hp1; have hB1 := bux w zq1 hb1; have hz1 : w.heap.size ≤ w1.heap.size := hB1.size) | (go_at_call 14; refine (HL.out _).mono ?_; clear HL; rintro e w2 ⟨v2, rfl, hT2, hb2⟩; obtain ⟨g2, cap2, rfl, hg2, hgl2, hc2, _, hcap2⟩ := hT2.form (by rw [hm]; omega); rw [hm] at hcap2 ⊢; have xA : w2.cell? ⟨g2, K * 11 + 1, none⟩ = some (.int .i64 (A : Int)) := (hc2 K _ HTK.out 1 zq16).trans (by show some (Value.int .i64 tK.at') = _; rw [ha]); clear hT2 hc2; have hB2 := bux w zq1 hb2; have hz2 : w.heap.size ≤ w2.heap.size := hB2.size; have oF : Own w2 w1.heap.size #[.slice p1 n1 c1] := Own.keep zq4 hb2; have hV2 : Rf.NV w2 (.slice p1 n1 c1) ns := Rf.View.keep hv1 (bup zq1 hb2); have hz12 : w1.heap.size < w2.heap.size := Nat.lt_of_lt_of_le (by simp) hb2.size) | (go_at_call 12; refine (HK.out _ zq1).mono ?_; clear HK; rintro e w3 ⟨rfl, hb3⟩; have hB3 : Below w.heap.size w w3 := bup hB2 hb3; have hz3 : w2.heap.size ≤ w3.heap.size := hb3.size; have oF3 : Own w3 w1.heap.size #[.slice p1 n1 c1] := Own.keep oF hb3; have cF := oF3.cell; have lF := oF3.lt; have hV3 : Rf.NV w3 (.slice p1 n1 c1) ns := Rf.View.keep hV2 hb3; have xA3 : w3.cell? ⟨g2, K * 11 + 1, none⟩ = some (.int .i64 (A : Int)) := (hb3.cell (p := ⟨g2, K * 11 + 1, none⟩) (by show g2 < _; omega)).trans xA; clear hV2 oF))
    go_region_held3 (fun w' => w'.cell? ⟨g2, K * 11 + 1, none⟩ = some (.int .i64 (A : Int))) (((repeat' apply And.intro) <;> (first | (go_keep; done) | (go_simp; done)))) ((go_at_call 9; refine (HQ'.out _ zq1).mono ?_; rintro e w5 ⟨p5, n5, c5, rfl, hv5, hq5, hb5⟩; have hB5 := bux w zq1 hb5; have hA5 : Below w3.heap.size w3 w5 := bup zq1 hb5; have xA5 : w5.cell? ⟨g2, K * 11 + 1, none⟩ = some (.int .i64 (A : Int)) := (hA5.cell (p := ⟨g2, K * 11 + 1, none⟩) (by show g2 < _; omega)).trans xA3; have hz5 : w3.heap.size ≤ w5.heap.size := hA5.size; try (refine Rf.with_fact (p := Own w5 w3.heap.size #[.slice none 0 0]) ?_ ?_; (· (refine Own.keep ?_ hb5; with_reducible (repeat' first | assumption | refine Own.drew ?_ | refine Own.drewN ?_ _ | (refine Own.at ?_; first | rfl | (simp; done)) | refine Own.past ?_ _ | refine Own.aside ?_ zq13 _); done)); intro oN; have cN := oN.cell; have fN := oN.fro; have lN := oN.lt)))
    ·obtain ⟨W6, hW6⟩ : ∃ W6, (w5.alloc (.cells #[.slice p5 n5 c5] 25)) = W6 := ⟨_, rfl⟩
     have o6 : Own W6 w5.heap.size #[.slice p5 n5 c5] := by rw [← hW6]; exact Own.new _ _ _
     have kV : ∀ b, b < w5.heap.size → W6.heap[b]? = w5.heap[b]? := fun b hb => by rw [← hW6]; exact Below.heap_alloc w5 _ b hb
     have hVb : Rf.NV W6 (.slice p5 n5 c5) ns := by rw [← hW6]; exact Rf.View.keep hv5 (bal _ _)
     have hVa : Rf.NV W6 (.slice p1 n1 c1) ns := by rw [← hW6]; exact Rf.View.keep (Rf.View.keep hV3 hA5) (bal _ _)
     have hz6 : w5.heap.size ≤ W6.heap.size := by rw [← hW6]; simp
     have hB6 : Below w.heap.size w W6 := by rw [← hW6]; exact hB5.alloc zq17 _
     have oF6 : Own W6 w1.heap.size #[.slice p1 n1 c1] := (oF3.keep hA5).of_block (kV _ zq17)
     have xA6 : W6.cell? ⟨g2, K * 11 + 1, none⟩ = some (.int .i64 (A : Int)) := (World.cell?_of_block (kV g2 zq17)).trans xA5
     have c6 := o6.cell
     have l6 := o6.lt
     have cF6 := oF6.cell
     have lF6 := oF6.lt
     rw [hW6]
     clear hW6 xA5 xA3 cF
     go_wp2_with (go_at_call 11; refine (hSM.out _ _ _ hVa hVb).mono ?_; rintro e w7 ⟨rfl, hb7⟩; have hB7 : Below w.heap.size w w7 := bup hB6 hb7)
     go_ret
     exact ⟨rfl, zq1⟩
    ·obtain ⟨W6, hW6⟩ : ∃ W6, (w5.setCell ⟨w3.heap.size, 0, none⟩ (.slice p5 n5 c5)) = W6 := ⟨_, rfl⟩
     have o6 : Own W6 w3.heap.size #[.slice p5 n5 c5] := by rw [← hW6]; exact Rf.own_put (k := 0) oN (by simp)
     have kV : ∀ b, b < w5.heap.size → b ≠ w3.heap.size → W6.heap[b]? = w5.heap[b]? := fun b _ hn => by rw [← hW6]; exact Below.heap_setCell w5 _ _ b hn
     have hVb : Rf.NV W6 (.slice p5 n5 c5) ns := by rw [← hW6]; exact nv_aside hv5 _ (fun b hb => by have := hq5 b hb; simp at this; show b.block ≠ w3.heap.size; omega)
     have hVa : Rf.NV W6 (.slice p1 n1 c1) ns := nv_same hV3 (by rw [← hW6]; simpa [World.setCell] using hz5) (fun b hb => (kV b zq17 zq17).trans (hA5.block b hb))
     have hz6 : w5.heap.size ≤ W6.heap.size := by rw [← hW6]; simp [World.setCell]
     have hB6 : Below w.heap.size w W6 := by rw [← hW6]; exact hB5.setCell (by show w.heap.size ≤ w3.heap.size; omega) _
     have oF6 : Own W6 w1.heap.size #[.slice p1 n1 c1] := (oF3.keep hA5).of_block (kV _ zq17 zq17)
     have xA6 : W6.cell? ⟨g2, K * 11 + 1, none⟩ = some (.int .i64 (A : Int)) := (World.cell?_of_block (kV g2 zq17 zq17)).trans xA5
     have c6 := o6.cell
     have l6 := o6.lt
     have cF6 := oF6.cell
     have lF6 := oF6.lt
     rw [hW6]
     clear hW6 xA5 xA3 cF
     go_wp2_with (go_at_call 11; refine (hSM.out _ _ _ hVa hVb).mono ?_; rintro e w7 ⟨rfl, hb7⟩; have hB7 : Below w.heap.size w w7 := bup hB6 hb7)
     go_ret
     exact ⟨rfl, zq1⟩
  ·have hcn : (c != 0) = true := by simpa using hc0
   have hc0' : ¬ c = 0 := hc0
   have hge : decide ((A : Int) ≤ a) = false := by simpa using hAa
   have HQ' : Hid (∀ w1, Below w.heap.size w w1 → Calls Tryz.prog 9 #[.string (x.extract 0 A ++ ⟨#[32]⟩ ++ x.extract A x.size), .iface 29 (.slice fp fn fc)] w1 fun e w' => ∃ p n cap, e = .returned (.tuple #[.agg #[.slice p n cap], .int .i64 c, .int .i64 a]) ∧ Rf.NV w' (.slice p n cap) ns ∧ (∀ a, p = some a → w1.heap.size ≤ a.block) ∧ Below w1.heap.size w1 w') := fun w1 hb => by have h := HQ.out w1 hb; rwa [if_neg (fun h => hAa h.2)] at h
   clear HQ
   rcases hrem with hrem | ⟨hrem, hneg⟩
   ·go_enter Tryz.func5, Tryz.ntmps5
    go_wp2_with (first | (go_at_call 9; refine (HP.out _ zq1).mono ?_; clear HP; intro e w1 hp1; obtain ⟨p1, n1, c1, rfl, hv1, _, hb1⟩ := hp1.uni; rw [hns] at hv1; rw [hcd, hat]; clear hp1; have hB1 := bux w zq1 hb1; have hz1 : w.heap.size ≤ w1.heap.size := hB1.size) | (go_at_call 14; refine (HL.out _).mono ?_; clear HL; rintro e w2 ⟨v2, rfl, hT2, hb2⟩; obtain ⟨g2, cap2, rfl, hg2, hgl2, hc2, _, hcap2⟩ := hT2.form (by rw [hm]; omega); rw [hm] at hcap2 ⊢; have xA : w2.cell? ⟨g2, K * 11 + 1, none⟩ = some (.int .i64 (A : Int)) := (hc2 K _ HTK.out 1 zq16).trans (by show some (Value.int .i64 tK.at') = _; rw [ha]); clear hT2 hc2; have hB2 := bux w zq1 hb2; have hz2 : w.heap.size ≤ w2.heap.size := hB2.size; have oF : Own w2 w1.heap.size #[.slice p1 n1 c1] := Own.keep zq4 hb2; have hV2 : Rf.NV w2 (.slice p1 n1 c1) ns := Rf.View.keep hv1 (bup zq1 hb2); have hz12 : w1.heap.size < w2.heap.size := Nat.lt_of_lt_of_le (by simp) hb2.size) | (go_at_call 12; refine (HK.out _ zq1).mono ?_; clear HK; rintro e w3 ⟨rfl, hb3⟩; have hB3 : Below w.heap.size w w3 := bup hB2 hb3; have hz3 : w2.heap.size ≤ w3.heap.size := hb3.size; have oF3 : Own w3 w1.heap.size #[.slice p1 n1 c1] := Own.keep oF hb3; have cF := oF3.cell; have lF := oF3.lt; have hV3 : Rf.NV w3 (.slice p1 n1 c1) ns := Rf.View.keep hV2 hb3; have xA3 : w3.cell? ⟨g2, K * 11 + 1, none⟩ = some (.int .i64 (A : Int)) := (hb3.cell (p := ⟨g2, K * 11 + 1, none⟩) (by show g2 < _; omega)).trans xA; clear hV2 oF))
    go_region_held3 (fun w' => w'.cell? ⟨g2, K * 11 + 1, none⟩ = some (.int .i64 (A : Int))) (((repeat' apply And.intro) <;> (first | (go_keep; done) | (go_simp; done)))) ((go_at_call 9; refine (HQ'.out _ zq1).mono ?_; rintro e w5 ⟨p5, n5, c5, rfl, hv5, hq5, hb5⟩; have hB5 := bux w zq1 hb5; have hA5 : Below w3.heap.size w3 w5 := bup zq1 hb5; have xA5 : w5.cell? ⟨g2, K * 11 + 1, none⟩ = some (.int .i64 (A : Int)) := (hA5.cell (p := ⟨g2, K * 11 + 1, none⟩) (by show g2 < _; omega)).trans xA3; have hz5 : w3.heap.size ≤ w5.heap.size := hA5.size; try (refine Rf.with_fact (p := Own w5 w3.heap.size #[.slice none 0 0]) ?_ ?_; (· (refine Own.keep ?_ hb5; with_reducible (repeat' first | assumption | refine Own.drew ?_ | refine Own.drewN ?_ _ | (refine Own.at ?_; first | rfl | (simp; done)) | refine Own.past ?_ _ | refine Own.aside ?_ zq13 _); done)); intro oN; have cN := oN.cell; have fN := oN.fro; have lN := oN.lt)))
    ·obtain ⟨W6, hW6⟩ : ∃ W6, (w5.alloc (.cells #[.slice p5 n5 c5] 25)) = W6 := ⟨_, rfl⟩
     have o6 : Own W6 w5.heap.size #[.slice p5 n5 c5] := by rw [← hW6]; exact Own.new _ _ _
     have kV : ∀ b, b < w5.heap.size → W6.heap[b]? = w5.heap[b]? := fun b hb => by rw [← hW6]; exact Below.heap_alloc w5 _ b hb
     have hVb : Rf.NV W6 (.slice p5 n5 c5) ns := by rw [← hW6]; exact Rf.View.keep hv5 (bal _ _)
     have hVa : Rf.NV W6 (.slice p1 n1 c1) ns := by rw [← hW6]; exact Rf.View.keep (Rf.View.keep hV3 hA5) (bal _ _)
     have hz6 : w5.heap.size ≤ W6.heap.size := by rw [← hW6]; simp
     have hB6 : Below w.heap.size w W6 := by rw [← hW6]; exact hB5.alloc zq17 _
     have oF6 : Own W6 w1.heap.size #[.slice p1 n1 c1] := (oF3.keep hA5).of_block (kV _ zq17)
     have xA6 : W6.cell? ⟨g2, K * 11 + 1, none⟩ = some (.int .i64 (A : Int)) := (World.cell?_of_block (kV g2 zq17)).trans xA5
     have c6 := o6.cell
     have l6 := o6.lt
     have cF6 := oF6.cell
     have lF6 := oF6.lt
     rw [hW6]
     clear hW6 xA5 xA3 cF
     go_wp2_with (go_at_call 11; refine (hSM.out _ _ _ hVa hVb).mono ?_; rintro e w7 ⟨rfl, hb7⟩; have hB7 : Below w.heap.size w w7 := bup hB6 hb7)
     go_ret
     exact ⟨rfl, zq1⟩
    ·obtain ⟨W6, hW6⟩ : ∃ W6, (w5.setCell ⟨w3.heap.size, 0, none⟩ (.slice p5 n5 c5)) = W6 := ⟨_, rfl⟩
     have o6 : Own W6 w3.heap.size #[.slice p5 n5 c5] := by rw [← hW6]; exact Rf.own_put (k := 0) oN (by simp)
     have kV : ∀ b, b < w5.heap.size → b ≠ w3.heap.size → W6.heap[b]? = w5.heap[b]? := fun b _ hn => by rw [← hW6]; exact Below.heap_setCell w5 _ _ b hn
     have hVb : Rf.NV W6 (.slice p5 n5 c5) ns := by rw [← hW6]; exact nv_aside hv5 _ (fun b hb => by have := hq5 b hb; simp at this; show b.block ≠ w3.heap.size; omega)
     have hVa : Rf.NV W6 (.slice p1 n1 c1) ns := nv_same hV3 (by rw [← hW6]; simpa [World.setCell] using hz5) (fun b hb => (kV b zq17 zq17).trans (hA5.block b hb))
     have hz6 : w5.heap.size ≤ W6.heap.size := by rw [← hW6]; simp [World.setCell]
     have hB6 : Below w.heap.size w W6 := by rw [← hW6]; exact hB5.setCell (by show w.heap.size ≤ w3.heap.size; omega) _
     have oF6 : Own W6 w1.heap.size #[.slice p1 n1 c1] := (oF3.keep hA5).of_block (kV _ zq17 zq17)
     have xA6 : W6.cell? ⟨g2, K * 11 + 1, none⟩ = some (.int .i64 (A : Int)) := (World.cell?_of_block (kV g2 zq17 zq17)).trans xA5
     have c6 := o6.cell
     have l6 := o6.lt
     have cF6 := oF6.cell
     have lF6 := oF6.lt
     rw [hW6]
     clear hW6 xA5 xA3 cF
     go_wp2_with (go_at_call 11; refine (hSM.out _ _ _ hVa hVb).mono ?_; rintro e w7 ⟨rfl, hb7⟩; have hB7 : Below w.heap.size w w7 := bup hB6 hb7)
     go_ret
     exact ⟨rfl, zq1⟩
   ·go_enter Tryz.func5, Tryz.ntmps5
    go_wp2_with (first | (go_at_call 9; refine (HP.out _ zq1).mono ?_; clear HP; intro e w1 hp1; obtain ⟨p1, n1, c1, rfl, hv1, _, hb1⟩ := hp1.uni; rw [hns] at hv1; rw [hcd, hat]; clear hp1; have hB1 := bux w zq1 hb1; have hz1 : w.heap.size ≤ w1.heap.size := hB1.size) | (go_at_call 14; refine (HL.out _).mono ?_; clear HL; rintro e w2 ⟨v2, rfl, hT2, hb2⟩; obtain ⟨g2, cap2, rfl, hg2, hgl2, hc2, _, hcap2⟩ := hT2.form (by rw [hm]; omega); rw [hm] at hcap2 ⊢; have xA : w2.cell? ⟨g2, K * 11 + 1, none⟩ = some (.int .i64 (A : Int)) := (hc2 K _ HTK.out 1 zq16).trans (by show some (Value.int .i64 tK.at') = _; rw [ha]); clear hT2 hc2; have hB2 := bux w zq1 hb2; have hz2 : w.heap.size ≤ w2.heap.size := hB2.size; have oF : Own w2 w1.heap.size #[.slice p1 n1 c1] := Own.keep zq4 hb2; have hV2 : Rf.NV w2 (.slice p1 n1 c1) ns := Rf.View.keep hv1 (bup zq1 hb2); have hz12 : w1.heap.size < w2.heap.size := Nat.lt_of_lt_of_le (by simp) hb2.size) | (go_at_call 12; refine (HK.out _ zq1).mono ?_; clear HK; rintro e w3 ⟨rfl, hb3⟩; have hB3 : Below w.heap.size w w3 := bup hB2 hb3; have hz3 : w2.heap.size ≤ w3.heap.size := hb3.size; have oF3 : Own w3 w1.heap.size #[.slice p1 n1 c1] := Own.keep oF hb3; have cF := oF3.cell; have lF := oF3.lt; have hV3 : Rf.NV w3 (.slice p1 n1 c1) ns := Rf.View.keep hV2 hb3; have xA3 : w3.cell? ⟨g2, K * 11 + 1, none⟩ = some (.int .i64 (A : Int)) := (hb3.cell (p := ⟨g2, K * 11 + 1, none⟩) (by show g2 < _; omega)).trans xA; clear hV2 oF))
    go_region_held3 (fun w' => w'.cell? ⟨g2, K * 11 + 1, none⟩ = some (.int .i64 (A : Int))) (((repeat' apply And.intro) <;> (first | (go_keep; done) | (go_simp; done)))) ((go_at_call 9; refine (HQ'.out _ zq1).mono ?_; rintro e w5 ⟨p5, n5, c5, rfl, hv5, hq5, hb5⟩; have hB5 := bux w zq1 hb5; have hA5 : Below w3.heap.size w3 w5 := bup zq1 hb5; have xA5 : w5.cell? ⟨g2, K * 11 + 1, none⟩ = some (.int .i64 (A : Int)) := (hA5.cell (p := ⟨g2, K * 11 + 1, none⟩) (by show g2 < _; omega)).trans xA3; have hz5 : w3.heap.size ≤ w5.heap.size := hA5.size; try (refine Rf.with_fact (p := Own w5 w3.heap.size #[.slice none 0 0]) ?_ ?_; (· (refine Own.keep ?_ hb5; with_reducible (repeat' first | assumption | refine Own.drew ?_ | refine Own.drewN ?_ _ | (refine Own.at ?_; first | rfl | (simp; done)) | refine Own.past ?_ _ | refine Own.aside ?_ zq13 _); done)); intro oN; have cN := oN.cell; have fN := oN.fro; have lN := oN.lt)))
    ·obtain ⟨W6, hW6⟩ : ∃ W6, (w5.alloc (.cells #[.slice p5 n5 c5] 25)) = W6 := ⟨_, rfl⟩
     have o6 : Own W6 w5.heap.size #[.slice p5 n5 c5] := by rw [← hW6]; exact Own.new _ _ _
     have kV : ∀ b, b < w5.heap.size → W6.heap[b]? = w5.heap[b]? := fun b hb => by rw [← hW6]; exact Below.heap_alloc w5 _ b hb
     have hVb : Rf.NV W6 (.slice p5 n5 c5) ns := by rw [← hW6]; exact Rf.View.keep hv5 (bal _ _)
     have hVa : Rf.NV W6 (.slice p1 n1 c1) ns := by rw [← hW6]; exact Rf.View.keep (Rf.View.keep hV3 hA5) (bal _ _)
     have hz6 : w5.heap.size ≤ W6.heap.size := by rw [← hW6]; simp
     have hB6 : Below w.heap.size w W6 := by rw [← hW6]; exact hB5.alloc zq17 _
     have oF6 : Own W6 w1.heap.size #[.slice p1 n1 c1] := (oF3.keep hA5).of_block (kV _ zq17)
     have xA6 : W6.cell? ⟨g2, K * 11 + 1, none⟩ = some (.int .i64 (A : Int)) := (World.cell?_of_block (kV g2 zq17)).trans xA5
     have c6 := o6.cell
     have l6 := o6.lt
     have cF6 := oF6.cell
     have lF6 := oF6.lt
     rw [hW6]
     clear hW6 xA5 xA3 cF
     go_wp2_with (go_at_call 11; refine (hSM.out _ _ _ hVa hVb).mono ?_; rintro e w7 ⟨rfl, hb7⟩; have hB7 : Below w.heap.size w w7 := bup hB6 hb7)
     go_ret
     exact ⟨rfl, zq1⟩
    ·obtain ⟨W6, hW6⟩ : ∃ W6, (w5.setCell ⟨w3.heap.size, 0, none⟩ (.slice p5 n5 c5)) = W6 := ⟨_, rfl⟩
     have o6 : Own W6 w3.heap.size #[.slice p5 n5 c5] := by rw [← hW6]; exact Rf.own_put (k := 0) oN (by simp)
     have kV : ∀ b, b < w5.heap.size → b ≠ w3.heap.size → W6.heap[b]? = w5.heap[b]? := fun b _ hn => by rw [← hW6]; exact Below.heap_setCell w5 _ _ b hn
     have hVb : Rf.NV W6 (.slice p5 n5 c5) ns := by rw [← hW6]; exact nv_aside hv5 _ (fun b hb => by have := hq5 b hb; simp at this; show b.block ≠ w3.heap.size; omega)
     have hVa : Rf.NV W6 (.slice p1 n1 c1) ns := nv_same hV3 (by rw [← hW6]; simpa [World.setCell] using hz5) (fun b hb => (kV b zq17 zq17).trans (hA5.block b hb))
     have hz6 : w5.heap.size ≤ W6.heap.size := by rw [← hW6]; simp [World.setCell]
     have hB6 : Below w.heap.size w W6 := by rw [← hW6]; exact hB5.setCell (by show w.heap.size ≤ w3.heap.size; omega) _
     have oF6 : Own W6 w1.heap.size #[.slice p1 n1 c1] := (oF3.keep hA5).of_block (kV _ zq17 zq17)
     have xA6 : W6.cell? ⟨g2, K * 11 + 1, none⟩ = some (.int .i64 (A : Int)) := (World.cell?_of_block (kV g2 zq17 zq17)).trans xA5
     have c6 := o6.cell
     have l6 := o6.lt
     have cF6 := oF6.cell
     have lF6 := oF6.lt
     rw [hW6]
     clear hW6 xA5 xA3 cF
     go_wp2_with (go_at_call 11; refine (hSM.out _ _ _ hVa hVb).mono ?_; rintro e w7 ⟨rfl, hb7⟩; have hB7 : Below w.heap.size w w7 := bup hB6 hb7)
     go_ret
     exact ⟨rfl, zq1⟩
end Go.Proofs.YtcmjhjnpcogmgaaGreatDoor
namespace Go.Proofs.YtcmjhjnpcogmgaaGreatDoor.parseBlanks
open Go.Shelf Go.RowKit Go.ChangeShapes Go.WideShapes Go.ChangeAt
theorem law (w : World) (x : ByteArray) (hx : x.size + 1 ≤ 1048576) (fp : Option Addr) (fn fc : Nat) (fl : List Fu) (hF : FV w (.slice fp fn fc) fl) (hfl : fl.length ≤ 140737488355328) (hsz : ∀ y ∈ fl, y.kinds.size ≤ 281474976710656 ∧ y.name.size ≤ 281474976710656) (which : Int) (hwh : -9223372036854775808 ≤ which ∧ which ≤ 9223372036854775807) (hS : Sgn w) (hN : Vv.Nam w) (hM : Mx w) : Calls Tryz.prog 5 #[.string x, .slice fp fn fc, .int .i64 which] w fun e w' => e = .returned (.bool true) ∧ Below w.heap.size w w' := by
 cases h : isF x with
 | false => exact blanks6_n w x hx fp fn fc fl hF hfl hsz which hS hN hM h
 | true => exact blanks6_f w x hx fp fn fc fl hF hfl hsz which hwh hS hN hM h
theorem reads (os : Os) {H : Type} (enc : TypeId × Value → H) : ∃ places, DataW.whole enc Tryz.prog ((World.laidAll Tryz.prog os tables).forCall (fun _ _ => 0) ⟨#[], #[.string ⟨#[]⟩, .slice none 0 0, .int .i64 0], []⟩).memory Tryz.f5.params.toList Rows.parseBlanksSpec.vars false #[.string ⟨#[]⟩, .slice none 0 0, .int .i64 0].toList 8 = some ([.lit (.string []), .nil, .lit (.int .i64 0)], [], places) :=
 ⟨[], zq14⟩
theorem met (os : Os) : laidMetH Tryz.prog tables ((World.laidAll Tryz.prog os tables).forCall (fun _ _ => 0) ⟨#[], #[.string ⟨#[]⟩, .slice none 0 0, .int .i64 0], []⟩).memory := by
 rw [MakeChecks.laidMetH_plain _ _ _ zq14]; exact laidMet_laidAll _ zq14 zq14
theorem lifted (os : Os) (started : os.Started) (H : Type) (enc : TypeId × Value → H) (F : Stop.Interp) :
  ReturnsInHanded {} Tryz.checked os 5 .any ((Rows.OpenSpec.upto Rows.parseBlanksSpec).preRow enc Tryz.prog Tryz.f5 Rows.parseBlanksUptoRow.domain false Rows.parseBlanksUptoRow.laid) (((Rows.OpenSpec.upto Rows.parseBlanksSpec).at F).post enc Tryz.prog Tryz.f5 false true false false) := by
 obtain ⟨places, hx⟩ := reads os enc
 refine returnsInHanded_of_row (C := Tryz.checked) (s := Rows.OpenSpec.upto Rows.parseBlanksSpec) own started zq14 Tryz.func5
  (witness_row_at (enc := enc) (C := Tryz.checked) false (World.laidAll Tryz.prog os tables) #[.string ⟨#[]⟩, .slice none 0 0, .int .i64 0] (World.laidAll_os _ _ _) zq14 zq14 zq14
   (OpenSpec.preRow_of_cond 8 hx zq14 (fun k hk => by cases hk; kernel_rfl) zq14 (met os))) ?_
 intro W base args ds gs before hval hW _ hcond _ hL hSh _
 have hW' := hW
 have hlt := hW.lt
 obtain ⟨p, q, hA0, hV, rfl, _, _⟩ := hW
 have hA : DataW.TrodAll enc Tryz.prog W 0 (fun _ => true) true Tryz.f5.params.toList args.toList ds p := hA0
 rw [Tryz.params5] at hA hval
 obtain ⟨v0, vs0, d0, ds0, p0, q0, hargs, rfl, rfl, h0, r0⟩ := trodAll_cons hA
 obtain ⟨v1, vs1, d1, ds1, p1, q1, rfl, rfl, rfl, h1, r1⟩ := trodAll_cons r0
 obtain ⟨v2, vs2, d2, ds2, p2, q2, rfl, rfl, rfl, h2, r2⟩ := trodAll_cons r1
 obtain ⟨rfl, rfl, rfl⟩ := trodAll_nil r2
 obtain rfl : args = #[v0, v1, v2] := by cases args; simp_all
 obtain ⟨rfl, rfl⟩ := trodVars_none hV
 have hk := of_decide_eq_true (hcond _ rfl)
 obtain ⟨x0, rfl, rfl, rfl, wx0⟩ := ChangeMaps.open_string Tryz.underlying9 (hval 0 9 v0 rfl rfl) h0
 obtain ⟨fp1, fn1, fc1, fl1, rfl, fv1, fd1⟩ := open_funs (hval 1 22 v1 rfl rfl) h1
 obtain ⟨len1, sz1⟩ := bulk_funs (l := [DataW.lit (.string x0.data.toList)]) hk fd1
 obtain ⟨x2, rfl, rfl, rfl, wx2⟩ := open_int Tryz.underlying3 (hval 2 3 v2 rfl rfl) h2
 refine (law W x0 (bulk_str hk) fp1 fn1 fc1 fl1 fv1 zq17 (fun x hx => by have := sz1 x hx; omega) x2 (i64_of wx2) (sgn_of_laid hL) (nam_of_laid hL) (mx_of_shaped hSh)).mono fun e W' ⟨he, hb⟩ => ?_
 subst he
 exact ⟨_, rfl, _, _, _, [], _, [], hW', trodAll_mk1 (shut_bool Tryz.underlying4 _), (trodAll_cons_mk (ChangeMaps.shut_string Tryz.underlying9 wx0) (trodAll_cons_mk (WideElems.Trod_stays laidOutZ zq14 rowFuns h1 (fun x hx => hb.same (hlt x (by simp [hx]))) (fun x hx => by have := hlt x (by simp [hx]); simpa using this)) (trodAll_cons_mk (shut_int Tryz.underlying3 wx2) trodAll_mk0))), rfl, hb.frame _, fun h => by cases h⟩
theorem holds : Rows.ParseBlanksUptoSaid :=
 OpenClaim.holds_of_cond 5 Tryz.f5 rfl rfl rfl rfl rfl rfl rfl ⟨rfl, rfl, rfl, rfl, rfl⟩ rfl rfl rfl rfl rfl zq14 Tryz.func5 zq14
  (of_decide_eq_true zq14) (by unfold Func.isWrapper; first | (rw [if_pos (by decide +kernel)]; kernel_rfl) | (rw [if_neg (by decide +kernel)]; exact ⟨rfl, rfl⟩))
  (fun os started H enc _ F => by rw [OpenClaim.pre_eq_preRow]; exact lifted os started H enc F)
theorem plain (f : FuncId) (fn : Func) (hf : Tryz.pinned.checked.prog.funcNamed "oriel/oriellaw06.ParseBlanks" = some f) (hfn : Tryz.pinned.checked.prog.funcs[f]? = some fn) :
  true = Tryz.pinned.checked.prog.looks [] ∧ ∀ (j : Nat) t, fn.params[j]? = some t → Tryz.pinned.checked.prog.wantsStandIn t = false := by
 obtain rfl : f = 5 := Option.some.inj ((show Tryz.prog.funcNamed "oriel/oriellaw06.ParseBlanks" = some 5 by kernel_rfl).symm.trans hf) |>.symm
 obtain rfl : fn = Tryz.f5 := (Option.some.inj (Tryz.func5.symm.trans hfn)).symm
 refine ⟨zq14, fun j t ht => ?_⟩
 rw [Tryz.params5] at ht
 have hm : t ∈ [9, 22, 3] := by simpa using Array.mem_of_getElem? ht
 have hall : ([9, 22, 3].all fun u => !Tryz.prog.wantsStandIn u) = true := by kernel_rfl
 exact (show Tryz.prog.wantsStandIn t = false by simpa using List.all_eq_true.1 hall t hm)
theorem card : Rows.ParseBlanksUptoCardSaid :=
 Claim7.holds_tied_plain_at .later [] _ _ _ _ holds (fun _ h => by cases h) zq14 (fun _ h => by cases h) parseBlanksUpto_row_tie rfl ⟨rfl, rfl⟩ zq14 rfl plain zq14
end Go.Proofs.YtcmjhjnpcogmgaaGreatDoor.parseBlanks
namespace Go.Proofs.YtcmjhjnpcogmgaaGreatDoor
theorem parseBlanks_card : Rows.ParseBlanksUptoCardSaid := parseBlanks.card
end Go.Proofs.YtcmjhjnpcogmgaaGreatDoor
