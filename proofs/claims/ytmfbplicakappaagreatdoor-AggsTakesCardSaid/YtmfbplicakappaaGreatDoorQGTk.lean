/- The contracts of aggs.kind, takes and rectsOf: of what kind a place is, whether so many arguments are taken, which are rectangles. New memory alone is made. -/
import Derived.Test.YtmfbplicakappaaGreatDoorQGT9
import Derived.Test.YtmfbplicakappaaGreatDoorQNT4
namespace Go.Proofs.YtmfbplicakappaaGreatDoor
open Go.RowKit
set_option linter.all false
/-- The kind of a place; the last one stands for all behind it. -/
def kdB (p : ByteArray) (i : Nat) : UInt8 := (p.data[min i (p.size - 1)]?).getD 0
/-- Whether a place of a kind may have a rectangle (or a single one). -/
def okK (k : UInt8) (m : Bool) : Bool := k == 120 || m == (k == 114)
def takB (p : ByteArray) (mo : Int) (l : List Bool) : Bool := decide (p.size ≤ l.length) && decide ((l.length : Int) ≤ mo) && l.zipIdx.all (fun q => okK (kdB p q.2) q.1)
theorem kind_any (p : ByteArray) (mo : Int) (st : Bool) (fp : Fn) (fc fl : Array Value) (i : Nat) (w : World) (hp : 0 < p.size) (hp2 : p.size ≤ 16) (hi : i ≤ 1099511627776) : Calls Tryz.prog 54 #[.agg #[.string p, .int .i64 mo, .bool st, .func fp fc fl], .int .i64 (i : Int)] w fun e w' => e = .returned (.int .u8 ((kdB p i).toNat : Int)) ∧ Below w.heap.size w w' := by
  obtain ⟨k, hk⟩ : ∃ k : Nat, min i (p.size - 1) = k := ⟨_, rfl⟩
  have hks : k < p.size := by omega
  have hks' : (k : Int) < (p.size : Int) := by omega
  have hm : min (i : Int) ((p.size : Int) - 1) = (k : Int) := by omega
  have e : kdB p i = p[k]'hks := by unfold kdB; rw [hk, Array.getElem?_eq_getElem (show k < p.data.size from hks)]; rfl
  go_enter Tryz.func54, Tryz.ntmps54
  go_wp2
  go_ret
  exact ⟨by rw [e]; rfl, by with_reducible (repeat' first | assumption | exact Below.refl _ _ | refine Below.drew ?_ | refine bdrewN ?_ _ | refine Below.setCell ?_ (by first | exact Nat.le_refl _ | (simp; done) | (simp; omega) | omega) _ | refine Below.alloc ?_ (by first | exact Nat.le_refl _ | (simp; done) | (simp; omega) | omega) _)⟩
theorem u8i (k c : UInt8) (n : Int) (h : (c.toNat : Int) = n) : ((k.toNat : Int) == n) = (k == c) := by
  subst h
  rw [Bool.eq_iff_iff]; simp only [beq_iff_eq]
  constructor
  · intro q; exact UInt8.toNat_inj.1 (by omega)
  · intro q; rw [q]
theorem u8n (k c : UInt8) (n : Int) (h : (c.toNat : Int) = n) : ((k.toNat : Int) != n) = (k != c) := by
  unfold bne; rw [u8i k c n h]
theorem zip_all (p : ByteArray) (l : List Bool) : l.zipIdx.all (fun q => okK (kdB p q.2) q.1) = true ↔ ∀ j x, l[j]? = some x → okK (kdB p j) x = true := by
  rw [List.all_eq_true]
  constructor
  · intro h j x hj
    exact h (x, j) (List.mem_zipIdx_iff_getElem?.2 hj)
  · intro h q hq
    exact h q.2 q.1 (List.mem_zipIdx_iff_getElem?.1 hq)
theorem tak_no {p : ByteArray} {mo : Int} {l : List Bool} {i : Nat} {x : Bool} (h : l[i]? = some x) (hx : okK (kdB p i) x = false) : takB p mo l = false := by
  have : l.zipIdx.all (fun q => okK (kdB p q.2) q.1) = false := by
    cases hc : l.zipIdx.all (fun q => okK (kdB p q.2) q.1)
    · rfl
    · rw [(zip_all p l).1 hc i x h] at hx; cases hx
  unfold takB; rw [this, Bool.and_false]
theorem tak_yes {p : ByteArray} {mo : Int} {l : List Bool} (h1 : p.size ≤ l.length) (h2 : (l.length : Int) ≤ mo) (h : ∀ j x, l[j]? = some x → okK (kdB p j) x = true) : takB p mo l = true := by
  unfold takB; rw [(zip_all p l).2 h, decide_eq_true h1, decide_eq_true h2]; rfl
theorem takes_few (p : ByteArray) (mo : Int) (st : Bool) (fp : Fn) (fc fl : Array Value) (w : World) (q : Option Addr) (n c : Nat) (h : (n : Int) < (p.size : Int)) : Calls Tryz.prog 23 #[.agg #[.string p, .int .i64 mo, .bool st, .func fp fc fl], .slice q n c] w fun e w' => e = .returned (.bool false) ∧ Below w.heap.size w w' := by
  go_enter Tryz.func23, Tryz.ntmps23
  go_wp2
  go_ret
  exact ⟨rfl, by with_reducible (repeat' first | assumption | exact Below.refl _ _ | refine Below.drew ?_ | refine bdrewN ?_ _ | refine Below.setCell ?_ (by first | exact Nat.le_refl _ | (simp; done) | (simp; omega) | omega) _ | refine Below.alloc ?_ (by first | exact Nat.le_refl _ | (simp; done) | (simp; omega) | omega) _)⟩
theorem takes_more (p : ByteArray) (mo : Int) (st : Bool) (fp : Fn) (fc fl : Array Value) (w : World) (q : Option Addr) (n c : Nat) (h : ¬ (n : Int) < (p.size : Int)) (h2 : mo < (n : Int)) : Calls Tryz.prog 23 #[.agg #[.string p, .int .i64 mo, .bool st, .func fp fc fl], .slice q n c] w fun e w' => e = .returned (.bool false) ∧ Below w.heap.size w w' := by
  go_enter Tryz.func23, Tryz.ntmps23
  go_wp2
  go_ret
  exact ⟨rfl, by with_reducible (repeat' first | assumption | exact Below.refl _ _ | refine Below.drew ?_ | refine bdrewN ?_ _ | refine Below.setCell ?_ (by first | exact Nat.le_refl _ | (simp; done) | (simp; omega) | omega) _ | refine Below.alloc ?_ (by first | exact Nat.le_refl _ | (simp; done) | (simp; omega) | omega) _)⟩
set_option maxHeartbeats 1000000 in
theorem takes_in (p : ByteArray) (mo : Int) (st : Bool) (fp : Fn) (fc fl : Array Value) (w : World) (b o c n : Nat) (l : List Bool) (hla : b < w.heap.size) (HA : ∀ i x, l[i]? = some x → ∀ j, j < 1 → w.cell? ⟨b, o + i * 1 + j, none⟩ = (bcell1 x)[j]?) (hn : l.length = n) (hc : n ≤ c) (hp : 0 < p.size) (hp2 : p.size ≤ 16) (h : ¬ (n : Int) < (p.size : Int)) (h2 : ¬ mo < (n : Int)) (hm : mo ≤ 16) : Calls Tryz.prog 23 #[.agg #[.string p, .int .i64 mo, .bool st, .func fp fc fl], .slice (some ⟨b, o, none⟩) n c] w fun e w' => e = .returned (.bool (takB p mo l)) ∧ Below w.heap.size w w' := by
  have HA' : Hid _ := HA
  have HL : Hid (l.length = n) := hn
  clear HA hn
  go_enter Tryz.func23, Tryz.ntmps23
  go_wp2
  go_loopw [23] (fun v w' => ∃ i : Nat, v = .int .i64 i ∧ i ≤ n ∧ Hid (∀ j x, j < i → l[j]? = some x → okK (kdB p j) x = true) ∧ Below w.heap.size w w' ∧ Own w' w.heap.size #[.string p, .int .i64 mo, .bool st, .func fp fc fl]) (fun v _ => n - (intOf v).toNat)
  case atStart => exact ⟨0, rfl, by omega, (show Hid _ from fun j x hj => absurd hj (by omega)), by with_reducible (repeat' first | assumption | exact Below.refl _ _ | refine Below.drew ?_ | refine bdrewN ?_ _ | refine Below.setCell ?_ (by first | exact Nat.le_refl _ | (simp; done) | (simp; omega) | omega) _ | refine Below.alloc ?_ (by first | exact Nat.le_refl _ | (simp; done) | (simp; omega) | omega) _), by with_reducible (repeat' first | assumption | refine Own.drew ?_ | refine Own.drewN ?_ _ | (refine Own.at ?_; first | rfl | (simp; done)) | refine Own.past ?_ _)⟩
  case round =>
    obtain ⟨i, rfl, hi, htk, hB3, o0⟩ := hrel
    have c0 := o0.cell
    have f0 := o0.fro
    have l0 := o0.lt
    have z3 := hB3.size
    by_cases hlt : i < n
    · have hlt' : (i : Int) < n := by omega
      have hai : l[i]? = some (l[i]'(by rw [HL.out]; exact hlt)) := List.getElem?_eq_getElem _
      have y0 := HA'.out i _ hai 0 (by decide)
      have HAi : Hid _ := hai
      revert y0 HAi
      generalize (l[i]'(by rw [HL.out]; exact hlt)) = x
      intro y0 HAi
      clear hai
      rw [Nat.mul_one, Nat.add_zero] at y0
      have x0 : wr.cell? ⟨b, o + i, none⟩ = some (.bool x) := (hB3.cell (p := ⟨b, o + i, none⟩) hla).trans y0
      clear y0
      have hK := fun W => kind_any p mo st fp fc fl i W hp hp2 (by omega)
      cases hok : okK (kdB p i) x
      · have HO : Hid _ := hok
        unfold okK at hok
        simp only [Bool.or_eq_false_iff] at hok
        have HR : Hid (takB p mo l = false) := (show _ from tak_no HAi.out HO.out)
        obtain ⟨hk1, hk2⟩ := hok
        have e1 : (((kdB p i).toNat : Int) != 120) = true := by rw [u8n _ 120 120 rfl]; unfold bne; rw [hk1]; rfl
        have e4 : (((kdB p i).toNat : Int) == 114) = !x := by
          rw [u8i _ 114 114 rfl]; revert hk2; cases x <;> cases (kdB p i == 114) <;> decide
        clear hk1 hk2
        generalize (kdB p i).toNat = kd at *
        cases x
        · replace e4 : ((kd : Int) == 114) = true := e4
          go_wp2_with (go_at_call 54; refine (hK _).mono ?_; rintro e w1 ⟨rfl, hb⟩; have hB : Below w.heap.size w w1 := bup (by with_reducible (repeat' first | assumption | exact Below.refl _ _ | refine Below.drew ?_ | refine bdrewN ?_ _ | refine Below.setCell ?_ (by first | exact Nat.le_refl _ | (simp; done) | (simp; omega) | omega) _ | refine Below.alloc ?_ (by first | exact Nat.le_refl _ | (simp; done) | (simp; omega) | omega) _)) hb; have o0 : Own w1 (w.heap.size) #[.string p, .int .i64 mo, .bool st, .func fp fc fl] := Own.keep (by with_reducible (repeat' first | assumption | refine Own.drew ?_ | refine Own.drewN ?_ _ | (refine Own.at ?_; first | rfl | (simp; done)) | refine Own.past ?_ _)) hb; have c0 := o0.cell; have f0 := o0.fro; have l0 := o0.lt)
          go_ret
          exact ⟨by rw [HR.out]; rfl, by with_reducible (repeat' first | assumption | exact Below.refl _ _ | refine Below.drew ?_ | refine bdrewN ?_ _ | refine Below.setCell ?_ (by first | exact Nat.le_refl _ | (simp; done) | (simp; omega) | omega) _ | refine Below.alloc ?_ (by first | exact Nat.le_refl _ | (simp; done) | (simp; omega) | omega) _)⟩
        · replace e4 : ((kd : Int) == 114) = false := e4
          go_wp2_with (go_at_call 54; refine (hK _).mono ?_; rintro e w1 ⟨rfl, hb⟩; have hB : Below w.heap.size w w1 := bup (by with_reducible (repeat' first | assumption | exact Below.refl _ _ | refine Below.drew ?_ | refine bdrewN ?_ _ | refine Below.setCell ?_ (by first | exact Nat.le_refl _ | (simp; done) | (simp; omega) | omega) _ | refine Below.alloc ?_ (by first | exact Nat.le_refl _ | (simp; done) | (simp; omega) | omega) _)) hb; have o0 : Own w1 (w.heap.size) #[.string p, .int .i64 mo, .bool st, .func fp fc fl] := Own.keep (by with_reducible (repeat' first | assumption | refine Own.drew ?_ | refine Own.drewN ?_ _ | (refine Own.at ?_; first | rfl | (simp; done)) | refine Own.past ?_ _)) hb; have c0 := o0.cell; have f0 := o0.fro; have l0 := o0.lt)
          go_ret
          exact ⟨by rw [HR.out]; rfl, by with_reducible (repeat' first | assumption | exact Below.refl _ _ | refine Below.drew ?_ | refine bdrewN ?_ _ | refine Below.setCell ?_ (by first | exact Nat.le_refl _ | (simp; done) | (simp; omega) | omega) _ | refine Below.alloc ?_ (by first | exact Nat.le_refl _ | (simp; done) | (simp; omega) | omega) _)⟩
      · have HO : Hid _ := hok
        have HT : Hid (∀ j x, j < i + 1 → l[j]? = some x → okK (kdB p j) x = true) := (show ∀ j x, j < i + 1 → l[j]? = some x → okK (kdB p j) x = true from fun j x' hj hx' => by
          by_cases e : j < i
          · exact htk.out j x' e hx'
          · have : j = i := by omega
            subst this
            have := HAi.out.symm.trans hx'
            cases this
            exact HO.out)
        unfold okK at hok
        cases hk1 : (((kdB p i).toNat : Int) != 120)
        · generalize (kdB p i).toNat = kd at *
          go_wp2_with (go_at_call 54; refine (hK _).mono ?_; rintro e w1 ⟨rfl, hb⟩; have hB : Below w.heap.size w w1 := bup (by with_reducible (repeat' first | assumption | exact Below.refl _ _ | refine Below.drew ?_ | refine bdrewN ?_ _ | refine Below.setCell ?_ (by first | exact Nat.le_refl _ | (simp; done) | (simp; omega) | omega) _ | refine Below.alloc ?_ (by first | exact Nat.le_refl _ | (simp; done) | (simp; omega) | omega) _)) hb; have o0 : Own w1 (w.heap.size) #[.string p, .int .i64 mo, .bool st, .func fp fc fl] := Own.keep (by with_reducible (repeat' first | assumption | refine Own.drew ?_ | refine Own.drewN ?_ _ | (refine Own.at ?_; first | rfl | (simp; done)) | refine Own.past ?_ _)) hb; have c0 := o0.cell; have f0 := o0.fro; have l0 := o0.lt)
          exact ⟨⟨i + 1, by go_num, by omega, HT, by with_reducible (repeat' first | assumption | exact Below.refl _ _ | refine Below.drew ?_ | refine bdrewN ?_ _ | refine Below.setCell ?_ (by first | exact Nat.le_refl _ | (simp; done) | (simp; omega) | omega) _ | refine Below.alloc ?_ (by first | exact Nat.le_refl _ | (simp; done) | (simp; omega) | omega) _), by with_reducible (repeat' first | assumption | refine Own.drew ?_ | refine Own.drewN ?_ _ | (refine Own.at ?_; first | rfl | (simp; done)) | refine Own.past ?_ _)⟩, by simp [intOf]; omega⟩
        · have e1 : (kdB p i == 120) = false := by rw [u8n _ 120 120 rfl] at hk1; simpa [bne] using hk1
          rw [e1, Bool.false_or] at hok
          have e4 : (((kdB p i).toNat : Int) == 114) = x := by
            rw [u8i _ 114 114 rfl]; revert hok; cases x <;> cases (kdB p i == 114) <;> decide
          clear hok e1
          generalize (kdB p i).toNat = kd at *
          cases x
          · replace e4 : ((kd : Int) == 114) = false := e4
            go_wp2_with (go_at_call 54; refine (hK _).mono ?_; rintro e w1 ⟨rfl, hb⟩; have hB : Below w.heap.size w w1 := bup (by with_reducible (repeat' first | assumption | exact Below.refl _ _ | refine Below.drew ?_ | refine bdrewN ?_ _ | refine Below.setCell ?_ (by first | exact Nat.le_refl _ | (simp; done) | (simp; omega) | omega) _ | refine Below.alloc ?_ (by first | exact Nat.le_refl _ | (simp; done) | (simp; omega) | omega) _)) hb; have o0 : Own w1 (w.heap.size) #[.string p, .int .i64 mo, .bool st, .func fp fc fl] := Own.keep (by with_reducible (repeat' first | assumption | refine Own.drew ?_ | refine Own.drewN ?_ _ | (refine Own.at ?_; first | rfl | (simp; done)) | refine Own.past ?_ _)) hb; have c0 := o0.cell; have f0 := o0.fro; have l0 := o0.lt)
            exact ⟨⟨i + 1, by go_num, by omega, HT, by with_reducible (repeat' first | assumption | exact Below.refl _ _ | refine Below.drew ?_ | refine bdrewN ?_ _ | refine Below.setCell ?_ (by first | exact Nat.le_refl _ | (simp; done) | (simp; omega) | omega) _ | refine Below.alloc ?_ (by first | exact Nat.le_refl _ | (simp; done) | (simp; omega) | omega) _), by with_reducible (repeat' first | assumption | refine Own.drew ?_ | refine Own.drewN ?_ _ | (refine Own.at ?_; first | rfl | (simp; done)) | refine Own.past ?_ _)⟩, by simp [intOf]; omega⟩
          · replace e4 : ((kd : Int) == 114) = true := e4
            go_wp2_with (go_at_call 54; refine (hK _).mono ?_; rintro e w1 ⟨rfl, hb⟩; have hB : Below w.heap.size w w1 := bup (by with_reducible (repeat' first | assumption | exact Below.refl _ _ | refine Below.drew ?_ | refine bdrewN ?_ _ | refine Below.setCell ?_ (by first | exact Nat.le_refl _ | (simp; done) | (simp; omega) | omega) _ | refine Below.alloc ?_ (by first | exact Nat.le_refl _ | (simp; done) | (simp; omega) | omega) _)) hb; have o0 : Own w1 (w.heap.size) #[.string p, .int .i64 mo, .bool st, .func fp fc fl] := Own.keep (by with_reducible (repeat' first | assumption | refine Own.drew ?_ | refine Own.drewN ?_ _ | (refine Own.at ?_; first | rfl | (simp; done)) | refine Own.past ?_ _)) hb; have c0 := o0.cell; have f0 := o0.fro; have l0 := o0.lt)
            exact ⟨⟨i + 1, by go_num, by omega, HT, by with_reducible (repeat' first | assumption | exact Below.refl _ _ | refine Below.drew ?_ | refine bdrewN ?_ _ | refine Below.setCell ?_ (by first | exact Nat.le_refl _ | (simp; done) | (simp; omega) | omega) _ | refine Below.alloc ?_ (by first | exact Nat.le_refl _ | (simp; done) | (simp; omega) | omega) _), by with_reducible (repeat' first | assumption | refine Own.drew ?_ | refine Own.drewN ?_ _ | (refine Own.at ?_; first | rfl | (simp; done)) | refine Own.past ?_ _)⟩, by simp [intOf]; omega⟩
    · have hlt' : ¬ (i : Int) < n := by omega
      have HR : Hid (takB p mo l = true) := (show _ from tak_yes (by rw [HL.out]; omega) (by rw [HL.out]; omega) (fun j x hj => htk.out j x (by have := (List.getElem?_eq_some_iff.1 hj).1; rw [HL.out] at this; omega) hj))
      go_wp2
      go_ret
      exact ⟨by rw [HR.out]; rfl, by with_reducible (repeat' first | assumption | exact Below.refl _ _ | refine Below.drew ?_ | refine bdrewN ?_ _ | refine Below.setCell ?_ (by first | exact Nat.le_refl _ | (simp; done) | (simp; omega) | omega) _ | refine Below.alloc ?_ (by first | exact Nat.le_refl _ | (simp; done) | (simp; omega) | omega) _)⟩
theorem takes_any (p : ByteArray) (mo : Int) (st : Bool) (fp : Fn) (fc fl : Array Value) (w : World) (v : Value) (l : List Bool) (hv : BV w v l) (hp : 0 < p.size) (hp2 : p.size ≤ 16) (hm : mo ≤ 16) : Calls Tryz.prog 23 #[.agg #[.string p, .int .i64 mo, .bool st, .func fp fc fl], v] w fun e w' => e = .returned (.bool (takB p mo l)) ∧ Below w.heap.size w w' := by
  obtain ⟨q, c, rfl, hc, hf⟩ := hv
  by_cases h : (l.length : Int) < (p.size : Int)
  · have : takB p mo l = false := by unfold takB; rw [decide_eq_false (show ¬ p.size ≤ l.length by omega)]; rfl
    rw [this]
    exact takes_few p mo st fp fc fl w q _ c h
  by_cases h2 : mo < (l.length : Int)
  · have : takB p mo l = false := by unfold takB; rw [decide_eq_false (show ¬ (l.length : Int) ≤ mo by omega), Bool.and_false]; rfl
    rw [this]
    exact takes_more p mo st fp fc fl w q _ c h h2
  obtain ⟨b, o, rfl, hlt, HA⟩ := hf (by omega)
  exact takes_in p mo st fp fc fl w b o c _ l hlt HA rfl hc hp hp2 h h2 hm
end Go.Proofs.YtmfbplicakappaaGreatDoor
