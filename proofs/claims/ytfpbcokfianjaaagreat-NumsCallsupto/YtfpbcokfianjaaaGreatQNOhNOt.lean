/- Plain facts of no function: what the document's side tells of GCD, LCM, of places and of CEIL is what the code's side tells. · That nums's Call and the document's answer the same of any name and arguments. The condition: the numbers and the lists' lengths fit. -/
import Derived.Test.YtfpbcokfianjaaaGreatQNOeNOf
import Derived.Test.YtfpbcokfianjaaaGreatQNOsNOu
import Derived.Test.YtfpbcokfianjaaaGreatQNTzNOa
import Derived.Test.YtfpbcokfianjaaaGreatQRRoundNOb
import Derived.Test.YtfpbcokfianjaaaGreatQNOcNOd
import Derived.Test.YtfpbcokfianjaaaGreatQNThNTl
namespace Go.Proofs.YtfpbcokfianjaaaGreat
open Go.RowKit
set_option linter.all false
theorem gcd_mul (a x : Int) (h : (10000 : Int) ∣ x) : gcdI (a * 10000) x = gcdI a (sz x / 10000) * 10000 := by
  obtain ⟨k, rfl⟩ := h
  have e : sz (10000 * k) / 10000 = (k.natAbs : Int) := by unfold sz; omega
  rw [e]
  unfold gcdI
  rw [Int.natAbs_mul, Int.natAbs_mul, Int.natAbs_natCast]
  show ((a.natAbs * 10000).gcd (10000 * k.natAbs) : Nat) = ((a.natAbs.gcd k.natAbs : Nat) : Int) * 10000
  rw [Nat.mul_comm 10000 k.natAbs, Nat.gcd_mul_right]
  rfl
theorem gcdL_units : ∀ (l : List Int) (a : Int), (∀ x ∈ l, (10000 : Int) ∣ x) → l.foldl gcdI (a * 10000) = l.foldl (fun g x => gcdI g (sz x / 10000)) a * 10000
  | [], a, _ => rfl
  | x :: l, a, h => by
    show l.foldl gcdI (gcdI (a * 10000) x) = l.foldl _ (gcdI a (sz x / 10000)) * 10000
    rw [gcd_mul a x (h x (List.mem_cons_self ..))]
    exact gcdL_units l _ (fun y hy => h y (List.mem_cons_of_mem _ hy))
theorem gcdL_gU (l : List Int) (h : l.any brk = false) : gcdL l = gU l * 10000 := gcdL_units l 0 (fun _ hx => whole_of h hx)
theorem lcm_units : ∀ (l : List Int) (m : Int), 0 < m → (∀ x ∈ l, (10000 : Int) ∣ x ∧ x ≠ 0) → lcmF (m * 10000) l = (lcmU m l).map (· * 10000)
  | [], m, _, _ => rfl
  | x :: l, m, hm, h => by
    obtain ⟨hd, h0⟩ := h x (List.mem_cons_self ..)
    have ih := fun m' hm' => lcm_units l m' hm' (fun y hy => h y (List.mem_cons_of_mem _ hy))
    unfold lcmF lcmU
    rw [gcd_mul m x hd]
    obtain ⟨u, hu⟩ : ∃ u, sz x / 10000 = u := ⟨_, rfl⟩
    have hsx : sz x = u * 10000 := by unfold sz at hu ⊢; omega
    have hu0 : 0 < u := by unfold sz at hu; omega
    rw [hu, hsx]
    have p : 0 < Nat.gcd m.natAbs u.natAbs := Nat.gcd_pos_of_pos_left _ (by omega)
    have g1 : 0 < gcdI m u := by unfold gcdI; omega
    have d1 : gcdI m u ∣ m := by unfold gcdI; exact Int.ofNat_dvd_left.2 (Nat.gcd_dvd_left _ _)
    have d2 : gcdI m u ∣ u := by unfold gcdI; exact Int.ofNat_dvd_left.2 (Nat.gcd_dvd_right _ _)
    generalize gcdI m u = g at *
    obtain ⟨a, rfl⟩ := d1
    obtain ⟨k, rfl⟩ := d2
    have ka : 0 < k := by apply Int.pos_of_mul_pos_right (a := g) <;> omega
    have e1 : g * a * 10000 / (g * 10000) = a := by
      rw [show g * a * 10000 = a * (g * 10000) by rw [Int.mul_comm g a, Int.mul_assoc]]
      exact Int.mul_ediv_cancel _ (by omega)
    have e2 : g * k / g = k := Int.mul_ediv_cancel_left _ (by omega)
    have e3 : a * (g * k * 10000) = g * a * k * 10000 := by rw [← Int.mul_assoc, ← Int.mul_assoc, Int.mul_comm a g]
    rw [e1, e2, e3]
    have e4 : (g * a * k * 10000 ≤ 9223372036854775807) ↔ g * a ≤ 922337203685477 / k := by
      rw [Int.le_ediv_iff_mul_le ka]; omega
    by_cases hc : g * a ≤ 922337203685477 / k
    · rw [if_pos hc, if_pos (e4.2 hc)]
      exact ih _ (Int.mul_pos hm ka)
    · rw [if_neg hc, if_neg (fun q => hc (e4.1 q))]
      rfl
theorem lcmV_W (l : List Int) (hb : l.any brk = false) (hz : l.any zro = false) : lcmV (lcmF 10000 l) = lcmW (lcmU 1 l) := by
  have e := lcm_units l 1 (by decide) (fun x hx => ⟨whole_of hb hx, zero_of hz hx⟩)
  rw [show (1 : Int) * 10000 = 10000 from rfl] at e
  rw [e]
  cases lcmU 1 l <;> rfl
theorem plc_eq {y : Int} (hw : wholeOk y = true) : plc y = max (-1000) (min 1000 (y.tdiv 10000)) := by unfold plc; rw [hw]; rfl
theorem round_plc (x : Int) {y : Int} (hw : wholeOk y = true) : roundOk x (plc y) = roundOk x (y.tdiv 10000) ∧ roundN x (plc y) = roundN x (y.tdiv 10000) := by
  rw [plc_eq hw]
  generalize y.tdiv 10000 = q
  by_cases h1 : q < -1000
  · rw [show max (-1000) (min 1000 q) = -1000 by omega]
    have e : q < -15 := by omega
    have e2 : ¬ 3 < q := by omega
    unfold roundOk roundN
    simp [e, e2]
  by_cases h2 : 1000 < q
  · rw [show max (-1000) (min 1000 q) = 1000 by omega]
    have e2 : 3 < q := by omega
    unfold roundOk roundN
    simp [e2]
  · rw [show max (-1000) (min 1000 q) = q by omega]
    exact ⟨rfl, rfl⟩
theorem pow_plc (x : Int) {y : Int} (hw : wholeOk y = true) : powX x (plc y) = powX x (y.tdiv 10000) ∧ powC x (plc y) = powC x (y.tdiv 10000) := by
  rw [plc_eq hw]
  generalize y.tdiv 10000 = q
  by_cases h1 : q < -1000
  · rw [show max (-1000) (min 1000 q) = -1000 by omega]
    unfold powX powC
    rw [if_pos (by omega), if_pos (by omega), if_pos (by omega), if_pos (by omega)]
    exact ⟨rfl, rfl⟩
  by_cases h2 : 1000 < q
  · rw [show max (-1000) (min 1000 q) = 1000 by omega]
    unfold powX powC
    rw [if_pos (by omega), if_pos (by omega), if_pos (by omega), if_pos (by omega)]
    exact ⟨rfl, rfl⟩
  · rw [show max (-1000) (min 1000 q) = q by omega]
    exact ⟨rfl, rfl⟩
theorem ceil_two {x s : Int} (hx : In x) (hs : 0 < s) (hs2 : In s) : okC (subOk x (modV x (-s))) = okC (subOk (-x) (modV (-x) s)) ∧ okV (subOk x (modV x (-s))) (x - modV x (-s)) = -okV (subOk (-x) (modV (-x) s)) (-x - modV (-x) s) := by
  have e1 : modV x (-s) = -((-x) % s) := by unfold modV; rw [if_neg (by omega), Int.neg_neg]
  have e2 : modV (-x) s = (-x) % s := by unfold modV; rw [if_pos hs]
  rw [e1, e2]
  have h1 := Int.emod_nonneg (-x) (b := s) (by omega)
  have h2 := Int.emod_lt_of_pos (-x) hs
  obtain ⟨a1, a2⟩ := hx
  obtain ⟨b1, b2⟩ := hs2
  generalize (-x) % s = r at *
  have e : subOk x (-r) = subOk (-x) r := by
    unfold subOk
    rw [decide_eq_decide]
    omega
  rw [e]
  refine ⟨rfl, ?_⟩
  cases subOk (-x) r
  · rfl
  · show x - -r = -(-x - r)
    omega
end Go.Proofs.YtfpbcokfianjaaaGreat
namespace Go.Proofs.YtfpbcokfianjaaaGreat
open Go.RowKit
set_option linter.all false
theorem nm_lf {a b : List UInt8} (h : (a == b) = false) : ((⟨a.toArray⟩ : ByteArray).toList == b) = false := nm_f (fun e => by injection e with e; have := congrArg Array.toList e; simp at this; subst this; simp at h)
theorem nm_lt (a : List UInt8) : ((⟨a.toArray⟩ : ByteArray).toList == a) = true := by
  have e : (⟨a.toArray⟩ : ByteArray).toList = a := by rw [ByteArray.toList_eq]
  rw [e]; simp
/-- What the document's Call answers, wherever the arguments lie. -/
def DocC (s : ByteArray) (l : List Ag) (rt rn : Int) (rs : ByteArray) (rb : Bool) (rc : Int) : Prop := ∀ (w : World) (b o c : Nat) (x : Int), b < w.heap.size → Hid (∀ i y, l[i]? = some y → ∀ j, j < 11 → w.cell? ⟨b, o + i * 11 + j, none⟩ = (Ag.cells y)[j]?) → l.length ≤ c → Hid (∀ a ∈ l, EV w a) → Calls Tryz.prog 5 #[.string s, .slice (some ⟨b, o, none⟩) l.length c, .int .i64 x] w fun e w' => e = .returned (.agg #[.int .i64 rt, .int .i64 rn, .string rs, .bool rb, .int .i64 rc]) ∧ Below w.heap.size w w'
def CodC (k : Nat) (l : List Int) (rt rn : Int) (rs : ByteArray) (rb : Bool) (rc : Int) : Prop := ∀ (W : World) (b : Nat), NB W b l → Calls Tryz.prog (fidI k) #[.slice (some ⟨b, 0, none⟩) l.length l.length] W fun e w' => e = .returned (.agg #[.int .i64 rt, .int .i64 rn, .string rs, .bool rb, .int .i64 rc]) ∧ Below W.heap.size W w'
/-- Both tell the same. -/
def Bo (s : ByteArray) (k : Nat) (l : List Ag) : Prop := ∃ (rt rn : Int) (rs : ByteArray) (rb : Bool) (rc : Int), CodC k (l.map asN) rt rn rs rb rc ∧ DocC s l rt rn rs rb rc
theorem bo1_ABS {k : Nat} {l : List Ag} {a0 : Int} {s : ByteArray} (hs : s = ⟨#[65, 66, 83]⟩) (hN : Hid (Nums l)) (hl40 : l.length ≤ 1099511627776) (h0 : 0 < l.length) (hr : Hid ((hasB (wlI s) (whI s) (l.length : Int) && !l.any nosB) = true)) (ha : firstF l = none) (hF : Hid (firstC l = 0)) (hN1 : l.map asN = [a0]) (rt rn : Int) (rs : ByteArray) (rb : Bool) (rc : Int) (hc : CodC k [a0] rt rn rs rb rc) (hd : ∀ W : World, Calls Tryz.prog 19 #[.string ⟨#[65, 66, 83]⟩, .int .i64 a0] W fun e w' => e = .returned (.agg #[.int .i64 rt, .int .i64 rn, .string rs, .bool rb, .int .i64 rc]) ∧ Below W.heap.size W w') : Bo s k l := by
  subst hs
  have h1 : l.length = 1 := by have := congrArg List.length hN1; simpa using this
  exact ⟨rt, rn, rs, rb, rc, by rw [hN1]; exact hc, fun w b o c x hla HA hcc hE => d_one ⟨#[65, 66, 83]⟩ w b o c x l hla HA hcc hN hl40 h0 hE hr ha hF (nm_lf (by decide)) (nm_lf (by decide)) (nm_lf (by decide)) (nm_lf (by decide)) (nm_lf (by decide)) h1 a0 hN1 rt rn rs rb rc hd⟩
theorem bo1_SIGN {k : Nat} {l : List Ag} {a0 : Int} {s : ByteArray} (hs : s = ⟨#[83, 73, 71, 78]⟩) (hN : Hid (Nums l)) (hl40 : l.length ≤ 1099511627776) (h0 : 0 < l.length) (hr : Hid ((hasB (wlI s) (whI s) (l.length : Int) && !l.any nosB) = true)) (ha : firstF l = none) (hF : Hid (firstC l = 0)) (hN1 : l.map asN = [a0]) (rt rn : Int) (rs : ByteArray) (rb : Bool) (rc : Int) (hc : CodC k [a0] rt rn rs rb rc) (hd : ∀ W : World, Calls Tryz.prog 19 #[.string ⟨#[83, 73, 71, 78]⟩, .int .i64 a0] W fun e w' => e = .returned (.agg #[.int .i64 rt, .int .i64 rn, .string rs, .bool rb, .int .i64 rc]) ∧ Below W.heap.size W w') : Bo s k l := by
  subst hs
  have h1 : l.length = 1 := by have := congrArg List.length hN1; simpa using this
  exact ⟨rt, rn, rs, rb, rc, by rw [hN1]; exact hc, fun w b o c x hla HA hcc hE => d_one ⟨#[83, 73, 71, 78]⟩ w b o c x l hla HA hcc hN hl40 h0 hE hr ha hF (nm_lf (by decide)) (nm_lf (by decide)) (nm_lf (by decide)) (nm_lf (by decide)) (nm_lf (by decide)) h1 a0 hN1 rt rn rs rb rc hd⟩
theorem bo1_INT {k : Nat} {l : List Ag} {a0 : Int} {s : ByteArray} (hs : s = ⟨#[73, 78, 84]⟩) (hN : Hid (Nums l)) (hl40 : l.length ≤ 1099511627776) (h0 : 0 < l.length) (hr : Hid ((hasB (wlI s) (whI s) (l.length : Int) && !l.any nosB) = true)) (ha : firstF l = none) (hF : Hid (firstC l = 0)) (hN1 : l.map asN = [a0]) (rt rn : Int) (rs : ByteArray) (rb : Bool) (rc : Int) (hc : CodC k [a0] rt rn rs rb rc) (hd : ∀ W : World, Calls Tryz.prog 19 #[.string ⟨#[73, 78, 84]⟩, .int .i64 a0] W fun e w' => e = .returned (.agg #[.int .i64 rt, .int .i64 rn, .string rs, .bool rb, .int .i64 rc]) ∧ Below W.heap.size W w') : Bo s k l := by
  subst hs
  have h1 : l.length = 1 := by have := congrArg List.length hN1; simpa using this
  exact ⟨rt, rn, rs, rb, rc, by rw [hN1]; exact hc, fun w b o c x hla HA hcc hE => d_one ⟨#[73, 78, 84]⟩ w b o c x l hla HA hcc hN hl40 h0 hE hr ha hF (nm_lf (by decide)) (nm_lf (by decide)) (nm_lf (by decide)) (nm_lf (by decide)) (nm_lf (by decide)) h1 a0 hN1 rt rn rs rb rc hd⟩
theorem bo1_SQRT {k : Nat} {l : List Ag} {a0 : Int} {s : ByteArray} (hs : s = ⟨#[83, 81, 82, 84]⟩) (hN : Hid (Nums l)) (hl40 : l.length ≤ 1099511627776) (h0 : 0 < l.length) (hr : Hid ((hasB (wlI s) (whI s) (l.length : Int) && !l.any nosB) = true)) (ha : firstF l = none) (hF : Hid (firstC l = 0)) (hN1 : l.map asN = [a0]) (rt rn : Int) (rs : ByteArray) (rb : Bool) (rc : Int) (hc : CodC k [a0] rt rn rs rb rc) (hd : ∀ W : World, Calls Tryz.prog 19 #[.string ⟨#[83, 81, 82, 84]⟩, .int .i64 a0] W fun e w' => e = .returned (.agg #[.int .i64 rt, .int .i64 rn, .string rs, .bool rb, .int .i64 rc]) ∧ Below W.heap.size W w') : Bo s k l := by
  subst hs
  have h1 : l.length = 1 := by have := congrArg List.length hN1; simpa using this
  exact ⟨rt, rn, rs, rb, rc, by rw [hN1]; exact hc, fun w b o c x hla HA hcc hE => d_one ⟨#[83, 81, 82, 84]⟩ w b o c x l hla HA hcc hN hl40 h0 hE hr ha hF (nm_lf (by decide)) (nm_lf (by decide)) (nm_lf (by decide)) (nm_lf (by decide)) (nm_lf (by decide)) h1 a0 hN1 rt rn rs rb rc hd⟩
theorem bo1_FACT {k : Nat} {l : List Ag} {a0 : Int} {s : ByteArray} (hs : s = ⟨#[70, 65, 67, 84]⟩) (hN : Hid (Nums l)) (hl40 : l.length ≤ 1099511627776) (h0 : 0 < l.length) (hr : Hid ((hasB (wlI s) (whI s) (l.length : Int) && !l.any nosB) = true)) (ha : firstF l = none) (hF : Hid (firstC l = 0)) (hN1 : l.map asN = [a0]) (rt rn : Int) (rs : ByteArray) (rb : Bool) (rc : Int) (hc : CodC k [a0] rt rn rs rb rc) (hd : ∀ W : World, Calls Tryz.prog 19 #[.string ⟨#[70, 65, 67, 84]⟩, .int .i64 a0] W fun e w' => e = .returned (.agg #[.int .i64 rt, .int .i64 rn, .string rs, .bool rb, .int .i64 rc]) ∧ Below W.heap.size W w') : Bo s k l := by
  subst hs
  have h1 : l.length = 1 := by have := congrArg List.length hN1; simpa using this
  exact ⟨rt, rn, rs, rb, rc, by rw [hN1]; exact hc, fun w b o c x hla HA hcc hE => d_one ⟨#[70, 65, 67, 84]⟩ w b o c x l hla HA hcc hN hl40 h0 hE hr ha hF (nm_lf (by decide)) (nm_lf (by decide)) (nm_lf (by decide)) (nm_lf (by decide)) (nm_lf (by decide)) h1 a0 hN1 rt rn rs rb rc hd⟩
theorem bo1_ODD {k : Nat} {l : List Ag} {a0 : Int} {s : ByteArray} (hs : s = ⟨#[79, 68, 68]⟩) (hN : Hid (Nums l)) (hl40 : l.length ≤ 1099511627776) (h0 : 0 < l.length) (hr : Hid ((hasB (wlI s) (whI s) (l.length : Int) && !l.any nosB) = true)) (ha : firstF l = none) (hF : Hid (firstC l = 0)) (hN1 : l.map asN = [a0]) (rt rn : Int) (rs : ByteArray) (rb : Bool) (rc : Int) (hc : CodC k [a0] rt rn rs rb rc) (hd : ∀ W : World, Calls Tryz.prog 19 #[.string ⟨#[79, 68, 68]⟩, .int .i64 a0] W fun e w' => e = .returned (.agg #[.int .i64 rt, .int .i64 rn, .string rs, .bool rb, .int .i64 rc]) ∧ Below W.heap.size W w') : Bo s k l := by
  subst hs
  have h1 : l.length = 1 := by have := congrArg List.length hN1; simpa using this
  exact ⟨rt, rn, rs, rb, rc, by rw [hN1]; exact hc, fun w b o c x hla HA hcc hE => d_one ⟨#[79, 68, 68]⟩ w b o c x l hla HA hcc hN hl40 h0 hE hr ha hF (nm_lf (by decide)) (nm_lf (by decide)) (nm_lf (by decide)) (nm_lf (by decide)) (nm_lf (by decide)) h1 a0 hN1 rt rn rs rb rc hd⟩
theorem bo2_FLOOR {k : Nat} {l : List Ag} {a0 a1 : Int} {s : ByteArray} (hs : s = ⟨#[70, 76, 79, 79, 82]⟩) (hN : Hid (Nums l)) (hl40 : l.length ≤ 1099511627776) (h0 : 0 < l.length) (hr : Hid ((hasB (wlI s) (whI s) (l.length : Int) && !l.any nosB) = true)) (ha : firstF l = none) (hF : Hid (firstC l = 0)) (hN1 : l.map asN = [a0, a1]) (rt rn : Int) (rs : ByteArray) (rb : Bool) (rc : Int) (hc : CodC k [a0, a1] rt rn rs rb rc) (hd : ∀ W : World, Calls Tryz.prog 20 #[.string ⟨#[70, 76, 79, 79, 82]⟩, .int .i64 a0, .int .i64 a1] W fun e w' => e = .returned (.agg #[.int .i64 rt, .int .i64 rn, .string rs, .bool rb, .int .i64 rc]) ∧ Below W.heap.size W w') : Bo s k l := by
  subst hs
  have h1 : l.length = 2 := by have := congrArg List.length hN1; simpa using this
  exact ⟨rt, rn, rs, rb, rc, by rw [hN1]; exact hc, fun w b o c x hla HA hcc hE => d_two ⟨#[70, 76, 79, 79, 82]⟩ w b o c x l hla HA hcc hN hl40 h0 hE hr ha hF (nm_lf (by decide)) (nm_lf (by decide)) (nm_lf (by decide)) (nm_lf (by decide)) (nm_lf (by decide)) h1 a0 a1 hN1 rt rn rs rb rc hd⟩
theorem bo2_CEIL {k : Nat} {l : List Ag} {a0 a1 : Int} {s : ByteArray} (hs : s = ⟨#[67, 69, 73, 76]⟩) (hN : Hid (Nums l)) (hl40 : l.length ≤ 1099511627776) (h0 : 0 < l.length) (hr : Hid ((hasB (wlI s) (whI s) (l.length : Int) && !l.any nosB) = true)) (ha : firstF l = none) (hF : Hid (firstC l = 0)) (hN1 : l.map asN = [a0, a1]) (rt rn : Int) (rs : ByteArray) (rb : Bool) (rc : Int) (hc : CodC k [a0, a1] rt rn rs rb rc) (hd : ∀ W : World, Calls Tryz.prog 20 #[.string ⟨#[67, 69, 73, 76]⟩, .int .i64 a0, .int .i64 a1] W fun e w' => e = .returned (.agg #[.int .i64 rt, .int .i64 rn, .string rs, .bool rb, .int .i64 rc]) ∧ Below W.heap.size W w') : Bo s k l := by
  subst hs
  have h1 : l.length = 2 := by have := congrArg List.length hN1; simpa using this
  exact ⟨rt, rn, rs, rb, rc, by rw [hN1]; exact hc, fun w b o c x hla HA hcc hE => d_two ⟨#[67, 69, 73, 76]⟩ w b o c x l hla HA hcc hN hl40 h0 hE hr ha hF (nm_lf (by decide)) (nm_lf (by decide)) (nm_lf (by decide)) (nm_lf (by decide)) (nm_lf (by decide)) h1 a0 a1 hN1 rt rn rs rb rc hd⟩
theorem bo2_MOD {k : Nat} {l : List Ag} {a0 a1 : Int} {s : ByteArray} (hs : s = ⟨#[77, 79, 68]⟩) (hN : Hid (Nums l)) (hl40 : l.length ≤ 1099511627776) (h0 : 0 < l.length) (hr : Hid ((hasB (wlI s) (whI s) (l.length : Int) && !l.any nosB) = true)) (ha : firstF l = none) (hF : Hid (firstC l = 0)) (hN1 : l.map asN = [a0, a1]) (rt rn : Int) (rs : ByteArray) (rb : Bool) (rc : Int) (hc : CodC k [a0, a1] rt rn rs rb rc) (hd : ∀ W : World, Calls Tryz.prog 20 #[.string ⟨#[77, 79, 68]⟩, .int .i64 a0, .int .i64 a1] W fun e w' => e = .returned (.agg #[.int .i64 rt, .int .i64 rn, .string rs, .bool rb, .int .i64 rc]) ∧ Below W.heap.size W w') : Bo s k l := by
  subst hs
  have h1 : l.length = 2 := by have := congrArg List.length hN1; simpa using this
  exact ⟨rt, rn, rs, rb, rc, by rw [hN1]; exact hc, fun w b o c x hla HA hcc hE => d_two ⟨#[77, 79, 68]⟩ w b o c x l hla HA hcc hN hl40 h0 hE hr ha hF (nm_lf (by decide)) (nm_lf (by decide)) (nm_lf (by decide)) (nm_lf (by decide)) (nm_lf (by decide)) h1 a0 a1 hN1 rt rn rs rb rc hd⟩
theorem bo2_QUOT {k : Nat} {l : List Ag} {a0 a1 : Int} {s : ByteArray} (hs : s = ⟨#[81, 85, 79, 84]⟩) (hN : Hid (Nums l)) (hl40 : l.length ≤ 1099511627776) (h0 : 0 < l.length) (hr : Hid ((hasB (wlI s) (whI s) (l.length : Int) && !l.any nosB) = true)) (ha : firstF l = none) (hF : Hid (firstC l = 0)) (hN1 : l.map asN = [a0, a1]) (rt rn : Int) (rs : ByteArray) (rb : Bool) (rc : Int) (hc : CodC k [a0, a1] rt rn rs rb rc) (hd : ∀ W : World, Calls Tryz.prog 20 #[.string ⟨#[81, 85, 79, 84]⟩, .int .i64 a0, .int .i64 a1] W fun e w' => e = .returned (.agg #[.int .i64 rt, .int .i64 rn, .string rs, .bool rb, .int .i64 rc]) ∧ Below W.heap.size W w') : Bo s k l := by
  subst hs
  have h1 : l.length = 2 := by have := congrArg List.length hN1; simpa using this
  exact ⟨rt, rn, rs, rb, rc, by rw [hN1]; exact hc, fun w b o c x hla HA hcc hE => d_two ⟨#[81, 85, 79, 84]⟩ w b o c x l hla HA hcc hN hl40 h0 hE hr ha hF (nm_lf (by decide)) (nm_lf (by decide)) (nm_lf (by decide)) (nm_lf (by decide)) (nm_lf (by decide)) h1 a0 a1 hN1 rt rn rs rb rc hd⟩
theorem bo2_POWER {k : Nat} {l : List Ag} {a0 a1 : Int} {s : ByteArray} (hs : s = ⟨#[80, 79, 87, 69, 82]⟩) (hN : Hid (Nums l)) (hl40 : l.length ≤ 1099511627776) (h0 : 0 < l.length) (hr : Hid ((hasB (wlI s) (whI s) (l.length : Int) && !l.any nosB) = true)) (ha : firstF l = none) (hF : Hid (firstC l = 0)) (hN1 : l.map asN = [a0, a1]) (rt rn : Int) (rs : ByteArray) (rb : Bool) (rc : Int) (hc : CodC k [a0, a1] rt rn rs rb rc) (hd : ∀ W : World, Calls Tryz.prog 20 #[.string ⟨#[80, 79, 87, 69, 82]⟩, .int .i64 a0, .int .i64 a1] W fun e w' => e = .returned (.agg #[.int .i64 rt, .int .i64 rn, .string rs, .bool rb, .int .i64 rc]) ∧ Below W.heap.size W w') : Bo s k l := by
  subst hs
  have h1 : l.length = 2 := by have := congrArg List.length hN1; simpa using this
  exact ⟨rt, rn, rs, rb, rc, by rw [hN1]; exact hc, fun w b o c x hla HA hcc hE => d_two ⟨#[80, 79, 87, 69, 82]⟩ w b o c x l hla HA hcc hN hl40 h0 hE hr ha hF (nm_lf (by decide)) (nm_lf (by decide)) (nm_lf (by decide)) (nm_lf (by decide)) (nm_lf (by decide)) h1 a0 a1 hN1 rt rn rs rb rc hd⟩
theorem bot_TRUNC {k : Nat} {l : List Ag} {a0 a1 : Int} {N' : List Int} {s : ByteArray} (hs : s = ⟨#[84, 82, 85, 78, 67]⟩) (hN : Hid (Nums l)) (hl40 : l.length ≤ 1099511627776) (h0 : 0 < l.length) (hr : Hid ((hasB (wlI s) (whI s) (l.length : Int) && !l.any nosB) = true)) (ha : firstF l = none) (hF : Hid (firstC l = 0)) (hN1 : l.map asN ++ [0] = a0 :: a1 :: N') (rt rn : Int) (rs : ByteArray) (rb : Bool) (rc : Int) (hc : CodC k (l.map asN) rt rn rs rb rc) (hd : ∀ W : World, Calls Tryz.prog 20 #[.string ⟨#[84, 82, 85, 78, 67]⟩, .int .i64 a0, .int .i64 a1] W fun e w' => e = .returned (.agg #[.int .i64 rt, .int .i64 rn, .string rs, .bool rb, .int .i64 rc]) ∧ Below W.heap.size W w') : Bo s k l := by
  subst hs
  exact ⟨rt, rn, rs, rb, rc, hc, fun w b o c x hla HA hcc hE => d_trunc ⟨#[84, 82, 85, 78, 67]⟩ w b o c x l hla HA hcc hN hl40 h0 hE hr ha hF (nm_lf (by decide)) (nm_lf (by decide)) (nm_lf (by decide)) (nm_lt _) a0 a1 N' hN1 rt rn rs rb rc hd⟩
theorem bot_ROUND {k : Nat} {l : List Ag} {a0 a1 : Int} {N' : List Int} {s : ByteArray} (hs : s = ⟨#[82, 79, 85, 78, 68]⟩) (hN : Hid (Nums l)) (hl40 : l.length ≤ 1099511627776) (h0 : 0 < l.length) (hr : Hid ((hasB (wlI s) (whI s) (l.length : Int) && !l.any nosB) = true)) (ha : firstF l = none) (hF : Hid (firstC l = 0)) (hN1 : l.map asN ++ [0] = a0 :: a1 :: N') (rt rn : Int) (rs : ByteArray) (rb : Bool) (rc : Int) (hc : CodC k (l.map asN) rt rn rs rb rc) (hd : ∀ W : World, Calls Tryz.prog 20 #[.string ⟨#[82, 79, 85, 78, 68]⟩, .int .i64 a0, .int .i64 a1] W fun e w' => e = .returned (.agg #[.int .i64 rt, .int .i64 rn, .string rs, .bool rb, .int .i64 rc]) ∧ Below W.heap.size W w') : Bo s k l := by
  subst hs
  exact ⟨rt, rn, rs, rb, rc, hc, fun w b o c x hla HA hcc hE => d_round ⟨#[82, 79, 85, 78, 68]⟩ w b o c x l hla HA hcc hN hl40 h0 hE hr ha hF (nm_lf (by decide)) (nm_lf (by decide)) (nm_lf (by decide)) (nm_lf (by decide)) (nm_lt _) a0 a1 N' hN1 rt rn rs rb rc hd⟩
theorem bom_GCD {k : Nat} {l : List Ag} {s : ByteArray} (hs : s = ⟨#[71, 67, 68]⟩) (hN : Hid (Nums l)) (hl40 : l.length ≤ 1099511627776) (h0 : 0 < l.length) (hr : Hid ((hasB (wlI s) (whI s) (l.length : Int) && !l.any nosB) = true)) (ha : firstF l = none) (hF : Hid (firstC l = 0)) (rt rn : Int) (rs : ByteArray) (rb : Bool) (rc : Int) (hc : CodC k (l.map asN) rt rn rs rb rc) (hd : ∀ (W : World) (g cap : Nat), l.length ≤ cap → NL W g (l.map asN) → Calls Tryz.prog 17 #[.string ⟨#[71, 67, 68]⟩, .slice (some ⟨g, 0, none⟩) l.length cap] W fun e w' => e = .returned (.agg #[.int .i64 rt, .int .i64 rn, .string rs, .bool rb, .int .i64 rc]) ∧ Below W.heap.size W w') : Bo s k l := by
  subst hs
  exact ⟨rt, rn, rs, rb, rc, hc, fun w b o c x hla HA hcc hE => d_many_gcd ⟨#[71, 67, 68]⟩ w b o c x l hla HA hcc hN hl40 h0 hE hr ha hF (nm_lt _) rt rn rs rb rc (show Hid _ from fun W g cap hcap hg hcl => hd W g cap hcap ⟨hg, hcl⟩)⟩
theorem bom_LCM {k : Nat} {l : List Ag} {s : ByteArray} (hs : s = ⟨#[76, 67, 77]⟩) (hN : Hid (Nums l)) (hl40 : l.length ≤ 1099511627776) (h0 : 0 < l.length) (hr : Hid ((hasB (wlI s) (whI s) (l.length : Int) && !l.any nosB) = true)) (ha : firstF l = none) (hF : Hid (firstC l = 0)) (rt rn : Int) (rs : ByteArray) (rb : Bool) (rc : Int) (hc : CodC k (l.map asN) rt rn rs rb rc) (hd : ∀ (W : World) (g cap : Nat), l.length ≤ cap → NL W g (l.map asN) → Calls Tryz.prog 17 #[.string ⟨#[76, 67, 77]⟩, .slice (some ⟨g, 0, none⟩) l.length cap] W fun e w' => e = .returned (.agg #[.int .i64 rt, .int .i64 rn, .string rs, .bool rb, .int .i64 rc]) ∧ Below W.heap.size W w') : Bo s k l := by
  subst hs
  exact ⟨rt, rn, rs, rb, rc, hc, fun w b o c x hla HA hcc hE => d_many_lcm ⟨#[76, 67, 77]⟩ w b o c x l hla HA hcc hN hl40 h0 hE hr ha hF (nm_lf (by decide)) (nm_lt _) rt rn rs rb rc (show Hid _ from fun W g cap hcap hg hcl => hd W g cap hcap ⟨hg, hcl⟩)⟩
theorem boc {k : Nat} {l : List Ag} {a0 a1 a2 : Int} {s : ByteArray} (hs : s = ⟨#[67, 76, 65, 77, 80]⟩) (hN : Hid (Nums l)) (hl40 : l.length ≤ 1099511627776) (h0 : 0 < l.length) (hr : Hid ((hasB (wlI s) (whI s) (l.length : Int) && !l.any nosB) = true)) (ha : firstF l = none) (hF : Hid (firstC l = 0)) (hN1 : l.map asN = [a0, a1, a2]) (rt rn : Int) (rs : ByteArray) (rb : Bool) (rc : Int) (hc : CodC k [a0, a1, a2] rt rn rs rb rc) (hd : DocC ⟨#[67, 76, 65, 77, 80]⟩ l rt rn rs rb rc) : Bo s k l := by
  subst hs
  exact ⟨rt, rn, rs, rb, rc, by rw [hN1]; exact hc, hd⟩
end Go.Proofs.YtfpbcokfianjaaaGreat
