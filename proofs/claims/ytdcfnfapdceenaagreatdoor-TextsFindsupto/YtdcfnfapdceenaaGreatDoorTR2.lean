/- The walk of TextsFinds where nothing is found. New memory alone is made. -/
import Derived.Test.YtdcfnfapdceenaaGreatDoorTR0
namespace Go.Proofs.YtdcfnfapdceenaaGreatDoor.textsFinds
open Go.Shelf Go.RowKit
set_option linter.all false
set_option maxRecDepth 100000 in
set_option maxHeartbeats 1000000 in
theorem f_miss (t s : ByteArray) (n : Int) (k : Nat) (hnk : Hid (n = (k : Int) + 1)) (w : World) (hk : k ≤ s.size) (hi : Hid (Lib.index (s.data.toList.drop k) t.data.toList = -1)) (ee : Nat) (hee : Hid (s.size + 2 = ee)) (HF : Hid (∀ i, k ≤ i → i + 1 < ee → occ s t i = false)) (ht : t.size ≤ 1048576) (hs : s.size ≤ 1048576) (hP : Pow w) (hM : Mx w) : Calls Tryz.prog 6 #[.string t, .string s, .int .i64 n] w fun e w' => e = .returned (.bool true) ∧ Below w.heap.size w w' := by
  have mixed : Tryz.prog.follows .mixedOrders = true := by kernel_rfl
  have n0 := hnk.out
  have m1 : Mod n := by rw [n0]; exact modk (k := k) (by omega)
  have n1 : ¬ n < 1 := by omega
  have n2 : ¬ (1099511627776 : Int) < n := by omega
  have n3 : wrap64 ((s.size : Int) + 2) = (s.size : Int) + 2 := by unfold wrap64; omega
  have bg : Bag w [] := Bag.nil w
  clear n0
  go_enter Tryz.func6, Tryz.ntmps6
  go_wp2_with (first | (go_at_call 11; (with_reducible refine (known_law _ hP).mono ?_); rintro e w1 ⟨rfl, hb1⟩; have hB1 : Below w.heap.size w w1 := bup (by with_reducible (repeat' first | assumption | exact Below.refl _ _ | refine Below.drew ?_ | refine bdrewN ?_ _ | refine Below.setCell ?_ (by first | exact Nat.le_refl _ | (simp; done) | (simp; omega) | omega) _ | refine Below.alloc ?_ (by first | exact Nat.le_refl _ | (simp; done) | (simp; omega) | omega) _)) hb1; (first | replace bg := Bag.keep bg hb1 | replace bg := Bag.keep (Bag.new bg _ _) hb1 | replace bg := Bag.keep (textsParts.Bag.drew bg) hb1); have z1 := hB1.size) | (go_at_call 17; (with_reducible refine (ltxt _ _).mono ?_); rintro e w1 ⟨rfl, hb1⟩; have hB1 : Below w.heap.size w w1 := bup (by with_reducible (repeat' first | assumption | exact Below.refl _ _ | refine Below.drew ?_ | refine bdrewN ?_ _ | refine Below.setCell ?_ (by first | exact Nat.le_refl _ | (simp; done) | (simp; omega) | omega) _ | refine Below.alloc ?_ (by first | exact Nat.le_refl _ | (simp; done) | (simp; omega) | omega) _)) hb1; (first | replace bg := Bag.keep bg hb1 | replace bg := Bag.keep (Bag.new bg _ _) hb1 | replace bg := Bag.keep (textsParts.Bag.drew bg) hb1); have z1 := hB1.size) | (go_at_call 18; (with_reducible refine (lwhole _ _ m1).mono ?_); rintro e w1 ⟨rfl, hb1⟩; have hB1 : Below w.heap.size w w1 := bup (by with_reducible (repeat' first | assumption | exact Below.refl _ _ | refine Below.drew ?_ | refine bdrewN ?_ _ | refine Below.setCell ?_ (by first | exact Nat.le_refl _ | (simp; done) | (simp; omega) | omega) _ | refine Below.alloc ?_ (by first | exact Nat.le_refl _ | (simp; done) | (simp; omega) | omega) _)) hb1; (first | replace bg := Bag.keep bg hb1 | replace bg := Bag.keep (Bag.new bg _ _) hb1 | replace bg := Bag.keep (textsParts.Bag.drew bg) hb1); have z1 := hB1.size) | (go_at_call 16; (with_reducible refine (llist_3 _ _ _ _ _ _ _ _ _ _).mono ?_); rintro e w1 ⟨⟨p1, c1, rfl, hv1⟩, hb1⟩; have hB1 : Below w.heap.size w w1 := bup (by with_reducible (repeat' first | assumption | exact Below.refl _ _ | refine Below.drew ?_ | refine bdrewN ?_ _ | refine Below.setCell ?_ (by first | exact Nat.le_refl _ | (simp; done) | (simp; omega) | omega) _ | refine Below.alloc ?_ (by first | exact Nat.le_refl _ | (simp; done) | (simp; omega) | omega) _)) hb1; (first | replace bg := Bag.keep bg hb1 | replace bg := Bag.keep (Bag.new bg _ _) hb1 | replace bg := Bag.keep (textsParts.Bag.drew bg) hb1); have z1 := hB1.size) | (go_at_call 20; (with_reducible refine (lfault_t 6 _).mono ?_); rintro e w1 ⟨rfl, hb1⟩; have hB1 : Below w.heap.size w w1 := bup (by with_reducible (repeat' first | assumption | exact Below.refl _ _ | refine Below.drew ?_ | refine bdrewN ?_ _ | refine Below.setCell ?_ (by first | exact Nat.le_refl _ | (simp; done) | (simp; omega) | omega) _ | refine Below.alloc ?_ (by first | exact Nat.le_refl _ | (simp; done) | (simp; omega) | omega) _)) hb1; (first | replace bg := Bag.keep bg hb1 | replace bg := Bag.keep (Bag.new bg _ _) hb1 | replace bg := Bag.keep (textsParts.Bag.drew bg) hb1); have z1 := hB1.size) | (go_at_call 9; (with_reducible refine (p_miss t s k _ (by rw [hnk.out]) _ _ hv1 (hP.up hB1) (hM.up hB1) hs hk hi.out).mono ?_); rintro e wA ⟨rfl, hb1⟩; have hB1 : Below w.heap.size w wA := bup (by with_reducible (repeat' first | assumption | exact Below.refl _ _ | refine Below.drew ?_ | refine bdrewN ?_ _ | refine Below.setCell ?_ (by first | exact Nat.le_refl _ | (simp; done) | (simp; omega) | omega) _ | refine Below.alloc ?_ (by first | exact Nat.le_refl _ | (simp; done) | (simp; omega) | omega) _)) hb1; (first | replace bg := Bag.keep bg hb1 | replace bg := Bag.keep (Bag.new bg _ _) hb1 | replace bg := Bag.keep (textsParts.Bag.drew bg) hb1); have z1 := hB1.size))
  clear n1 n2 n3
  have hes : ee ≤ 1048578 := by have := hee.out; omega
  have hkl : k ≤ 1099511627776 := by omega
  go_loopw [9] (fun v w' => ∃ i : Nat, v = .int .i64 (i : Int) ∧ k < i ∧ i ≤ k + 1 + ee ∧ w' = w1) (fun v _ => ee - (intOf v).toNat)
  case atStart => exact ⟨k + 1, by rw [hnk.out]; rfl, by omega, by omega, rfl⟩
  case round =>
    obtain ⟨i, rfl, hki, hie, rfl⟩ := hrel
    go_wp2
    all_goals first
      | exact ⟨⟨i + 1, by go_num, by omega, by have := hee.out; omega, trivial⟩, by have := hee.out; simp [intOf]; omega⟩
      | (go_ret; exact ⟨rfl, by with_reducible (repeat' first | assumption | exact Below.refl _ _ | refine Below.drew ?_ | refine bdrewN ?_ _ | refine Below.setCell ?_ (by first | exact Nat.le_refl _ | (simp; done) | (simp; omega) | omega) _ | refine Below.alloc ?_ (by first | exact Nat.le_refl _ | (simp; done) | (simp; omega) | omega) _)⟩)
      | (exfalso; have hh := ‹((s.extract (i - 1) (i - 1 + t.size)).toList == t.toList) = true›; rw [occ_piece (by omega), HF.out (i - 1) (by omega) (by have := hee.out; omega)] at hh; cases hh)
end Go.Proofs.YtdcfnfapdceenaaGreatDoor.textsFinds
