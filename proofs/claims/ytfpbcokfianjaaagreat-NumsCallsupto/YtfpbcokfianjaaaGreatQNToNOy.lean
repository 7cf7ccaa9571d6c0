/- What the laws of this seat share: how a list of truths comes in. · The walk of NumsCalls: both Calls answer one value. New memory alone is made. -/
import Derived.Test.YtfpbcokfianjaaaGreatQNTdNTe
import Derived.Test.YtfpbcokfianjaaaGreatQNOmNTf
import Derived.ProofKit
import Derived.OpenShut
import Derived.ShutString
import Derived.Deep.Grids
import Derived.Deep.Slices
import Derived.Deep.DeepHandedRow
import Derived.SizedLaws
import Derived.WideKeyArgs
import Derived.Test.YtfpbcokfianjaaaGreatQNOxOA
import Derived.Lay
import Derived.Stop.LaidErr
import Derived.LaidOnce
import Derived.SevenTiedAt
namespace Go.Proofs.YtfpbcokfianjaaaGreat
open Go.RowKit Go.ChangeShapes Go.WideShapes Go.ChangeAt
set_option linter.all false
theorem i64_of {x : Int} (h : (Lit.int .i64 x).wf = true) : I64 x := by
  have : -9223372036854775808 ≤ x ∧ x ≤ 9223372036854775807 := by simpa [Lit.wf, IntKind.min, IntKind.max, IntKind.signed, IntKind.bits] using h
  exact this
theorem own : ownKnob Tryz.prog.godebug = none := by kernel_rfl
theorem laidOutN : laidOutB Tryz.prog = true := by kernel_rfl
end Go.Proofs.YtfpbcokfianjaaaGreat
namespace Go.Proofs.YtfpbcokfianjaaaGreat
open Go.RowKit
set_option linter.all false
set_option maxHeartbeats 1000000 in
theorem nc_all (s : ByteArray) (v : Value) (L : List (Ag × List En)) (x : Int) (w : World) (hv : AV w v (L.map Prod.fst)) (hW : ∀ p ∈ L, Oa.AgW w p) (hl : L.length ≤ 1048576) : Calls Tryz.prog 3 #[.string s, v, .int .i64 x] w fun e w' => e = .returned (.bool true) ∧ Below w.heap.size w w' := by
  have hN : Nums (L.map Prod.fst) := fun a ha => by
    obtain ⟨p, hp, rfl⟩ := List.mem_map.1 ha
    exact (hW p hp).1.2.1
  have hE : ∀ a ∈ L.map Prod.fst, EV w a := fun a ha => by
    obtain ⟨p, hp, rfl⟩ := List.mem_map.1 ha
    exact (hW p hp).ev
  obtain ⟨rt, rn, rs, rb, rc, h1, h2⟩ := call_both s (L.map Prod.fst) hN (by rw [List.length_map]; omega)
  have H1 : Hid _ := h1
  have H2 : Hid _ := h2
  have HE : Hid (∀ a ∈ L.map Prod.fst, EV w a) := hE
  have HV : Hid (AV w v (L.map Prod.fst)) := hv
  have hsl : ∃ p n c, v = .slice p n c := by obtain ⟨p, c, e, _⟩ := hv; exact ⟨p, _, c, e⟩
  clear h1 h2 hE hv hW hN hl
  obtain ⟨p, n, c, rfl⟩ := hsl
  have hq := eqv rt rn rs rb rc rt rn rs rb rc
  have hsb : sameB rt rn rs rb rc rt rn rs rb rc = true := by unfold sameB; simp
  simp only [hsb] at hq
  clear hsb
  go_enter Tryz.func3, Tryz.ntmps3
  go_wp2_with (first | (go_at_call 4; refine (H1.out _ _ _ HV.out).mono ?_; rintro e wa ⟨rfl, hbwa⟩; have hBwa : Below w.heap.size w wa := bup (by with_reducible (repeat' first | assumption | exact Below.refl _ _ | refine Below.drew ?_ | refine bdrewN ?_ _ | refine Below.setCell ?_ (by first | exact Nat.le_refl _ | (simp; done) | (simp; omega) | omega) _ | refine Below.alloc ?_ (by first | exact Nat.le_refl _ | (simp; done) | (simp; omega) | omega) _)) hbwa; have zwa := hBwa.size; have HVa : Hid (AV wa (.slice p n c) (L.map Prod.fst)) := (show AV wa (.slice p n c) (L.map Prod.fst) from View.keep HV.out hBwa); have HEa : Hid (∀ a ∈ L.map Prod.fst, EV wa a) := (show ∀ a ∈ L.map Prod.fst, EV wa a from fun a ha => EV.keep (HE.out a ha) hBwa)) | (go_at_call 5; refine (H2.out _ _ _ HVa.out HEa).mono ?_; rintro e wb ⟨rfl, hbwb⟩; have hBwb : Below w.heap.size w wb := bup (by with_reducible (repeat' first | assumption | exact Below.refl _ _ | refine Below.drew ?_ | refine bdrewN ?_ _ | refine Below.setCell ?_ (by first | exact Nat.le_refl _ | (simp; done) | (simp; omega) | omega) _ | refine Below.alloc ?_ (by first | exact Nat.le_refl _ | (simp; done) | (simp; omega) | omega) _)) hbwb; have zwb := hBwb.size) | (go_at_call 6; refine (known_law _).mono ?_; rintro e wc ⟨rfl, hbwc⟩; have hBwc : Below w.heap.size w wc := bup (by with_reducible (repeat' first | assumption | exact Below.refl _ _ | refine Below.drew ?_ | refine bdrewN ?_ _ | refine Below.setCell ?_ (by first | exact Nat.le_refl _ | (simp; done) | (simp; omega) | omega) _ | refine Below.alloc ?_ (by first | exact Nat.le_refl _ | (simp; done) | (simp; omega) | omega) _)) hbwc; have zwc := hBwc.size))
  go_ret
  exact ⟨retBl (by first | rfl | simp), by with_reducible (repeat' first | assumption | exact Below.refl _ _ | refine Below.drew ?_ | refine bdrewN ?_ _ | refine Below.setCell ?_ (by first | exact Nat.le_refl _ | (simp; done) | (simp; omega) | omega) _ | refine Below.alloc ?_ (by first | exact Nat.le_refl _ | (simp; done) | (simp; omega) | omega) _)⟩
end Go.Proofs.YtfpbcokfianjaaaGreat
