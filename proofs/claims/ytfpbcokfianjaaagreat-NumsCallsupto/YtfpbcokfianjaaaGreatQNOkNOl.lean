/- The contracts of the document's Arg (package orielref08): any single argument; a rectangle that may be, with a value, or with no entries. New memory alone is made. · The contract of the document's Arg (package orielref08) at any rectangle: it answers some truth. New memory alone is made. -/
import Derived.Test.YtfpbcokfianjaaaGreatQNOiNOj
namespace Go.Proofs.YtfpbcokfianjaaaGreat
open Go.RowKit
set_option linter.all false
theorem darg_s (a : Ag) (w : World) (hm : a.many = false) (ha : I64 a.n) : Calls Tryz.prog 31 #[.agg #[.bool false, .int .i64 a.t, .int .i64 a.n, .string a.s, .bool a.b, .int .i64 a.c, .int .i64 a.r0, .int .i64 a.r1, .int .i64 a.r2, .int .i64 a.r3, .slice a.ep a.en a.ec]] w fun e w' => e = .returned (.bool (!nosB a)) ∧ Below w.heap.size w w' := by
  obtain ⟨m, t, n, s, b, c, r0, r1, r2, r3, ep, en, ec⟩ := a
  simp only at hm
  subst hm
  cases hr : rz r0 r1 r2 r3
  · rw [show (!nosB ⟨false, t, n, s, b, c, r0, r1, r2, r3, ep, en, ec⟩) = false by simp [nosB, hr]]
    exact darg_r t n s b c r0 r1 r2 r3 ep en ec w hr
  · by_cases he : 0 < en
    · rw [show (!nosB ⟨false, t, n, s, b, c, r0, r1, r2, r3, ep, en, ec⟩) = false by simp [nosB, hr, he]]
      exact darg_e t n s b c r0 r1 r2 r3 ep en ec w hr he
    · obtain rfl : en = 0 := by omega
      rw [show (!nosB ⟨false, t, n, s, b, c, r0, r1, r2, r3, ep, 0, ec⟩) = mayB t n s b c by simp [nosB, hr]]
      exact darg_v t n s b c r0 r1 r2 r3 ep ec w hr ha
theorem neV0 (t n : Int) (s : ByteArray) (b : Bool) (c : Int) (w : World) : (binOp .neq 26 (.agg #[.int .i64 t, .int .i64 n, .string s, .bool b, .int .i64 c]) (.agg #[.int .i64 0, .int .i64 0, .string ⟨#[]⟩, .bool false, .int .i64 0])).run Tryz.prog w = .ok (.bool (!vz5 t n s b c)) w := by
  rw [run_neq_struct, run_equalIn_agg w 9999 26 _ _ (by kernel_rfl) (by kernel_rfl)]
  unfold vz5
  go_simp
  by_cases h1 : t = 0
  · by_cases h2 : n = 0
    · by_cases h3 : s = ⟨#[]⟩
      · by_cases h4 : b = false
        · by_cases h5 : c = 0 <;> simp [h1, h2, h3, h4, h5]
        · simp [h1, h2, h3, h4]
      · have h3' : ¬ s.toList = (⟨#[]⟩ : ByteArray).toList := fun h => h3 (toList_inj h)
        simp [h1, h2, h3]
        intro hh
        exact absurd (hh.trans (by first | rfl | simp)) h3'
    · simp [h1, h2]
  · simp [h1]
theorem darg_mv (t n : Int) (s : ByteArray) (b : Bool) (c r0 r1 r2 r3 : Int) (ep : Option Addr) (en ec : Nat) (w : World) (hr : Ad.mayR r0 r1 r2 r3 = true) (hv : vz5 t n s b c = false) : Calls Tryz.prog 31 #[(.agg #[.bool true, .int .i64 t, .int .i64 n, .string s, .bool b, .int .i64 c, .int .i64 r0, .int .i64 r1, .int .i64 r2, .int .i64 r3, .slice ep en ec])] w fun e w' => e = .returned (.bool false) ∧ Below w.heap.size w w' := by
  have hne := neV0 t n s b c
  rw [hv] at hne
  go_enter Tryz.func31, Tryz.ntmps31
  go_wp2_with (go_at_call 70; refine (Ad.rmayR_any _ _ _ _ _).mono ?_; rintro e wa ⟨rfl, hbwa⟩; have hBwa : Below w.heap.size w wa := bup (by with_reducible (repeat' first | assumption | exact Below.refl _ _ | refine Below.drew ?_ | refine bdrewN ?_ _ | refine Below.setCell ?_ (by first | exact Nat.le_refl _ | (simp; done) | (simp; omega) | omega) _ | refine Below.alloc ?_ (by first | exact Nat.le_refl _ | (simp; done) | (simp; omega) | omega) _)) hbwa; have zwa := hBwa.size; have o0wa : Own wa (w.heap.size) #[.bool true, .int .i64 t, .int .i64 n, .string s, .bool b, .int .i64 c, .int .i64 r0, .int .i64 r1, .int .i64 r2, .int .i64 r3, .slice ep en ec] := Own.keep (by with_reducible (repeat' first | assumption | refine Own.drew ?_ | refine Own.drewN ?_ _ | (refine Own.at ?_; first | rfl | (simp; done)) | refine Own.past ?_ _)) hbwa; have c0 := o0wa.cell; have f0 := o0wa.fro; have l0 := o0wa.lt)
  go_ret
  exact ⟨retBl (by first | rfl | simp), by with_reducible (repeat' first | assumption | exact Below.refl _ _ | refine Below.drew ?_ | refine bdrewN ?_ _ | refine Below.setCell ?_ (by first | exact Nat.le_refl _ | (simp; done) | (simp; omega) | omega) _ | refine Below.alloc ?_ (by first | exact Nat.le_refl _ | (simp; done) | (simp; omega) | omega) _)⟩
end Go.Proofs.YtfpbcokfianjaaaGreat
namespace Go.Proofs.YtfpbcokfianjaaaGreat
open Go.RowKit
set_option linter.all false
theorem darg_m0 (r0 r1 r2 r3 : Int) (ep : Option Addr) (ec : Nat) (w : World) (hr : Ad.mayR r0 r1 r2 r3 = true) : Calls Tryz.prog 31 #[(.agg #[.bool true, .int .i64 0, .int .i64 0, .string ⟨#[]⟩, .bool false, .int .i64 0, .int .i64 r0, .int .i64 r1, .int .i64 r2, .int .i64 r3, .slice ep 0 ec])] w fun e w' => e = .returned (.bool true) ∧ Below w.heap.size w w' := by
  go_enter Tryz.func31, Tryz.ntmps31
  go_wp2_with (go_at_call 70; refine (Ad.rmayR_any _ _ _ _ _).mono ?_; rintro e wa ⟨rfl, hbwa⟩; have hBwa : Below w.heap.size w wa := bup (by with_reducible (repeat' first | assumption | exact Below.refl _ _ | refine Below.drew ?_ | refine bdrewN ?_ _ | refine Below.setCell ?_ (by first | exact Nat.le_refl _ | (simp; done) | (simp; omega) | omega) _ | refine Below.alloc ?_ (by first | exact Nat.le_refl _ | (simp; done) | (simp; omega) | omega) _)) hbwa; have zwa := hBwa.size; have o0wa : Own wa (w.heap.size) #[.bool true, .int .i64 0, .int .i64 0, .string ⟨#[]⟩, .bool false, .int .i64 0, .int .i64 r0, .int .i64 r1, .int .i64 r2, .int .i64 r3, .slice ep 0 ec] := Own.keep (by with_reducible (repeat' first | assumption | refine Own.drew ?_ | refine Own.drewN ?_ _ | (refine Own.at ?_; first | rfl | (simp; done)) | refine Own.past ?_ _)) hbwa; have c0 := o0wa.cell; have f0 := o0wa.fro; have l0 := o0wa.lt)
  go_loopw [3] (fun v w' => v = .int .i64 0 ∧ Below w.heap.size w w' ∧ Own w' w.heap.size #[.bool true, .int .i64 0, .int .i64 0, .string ⟨#[]⟩, .bool false, .int .i64 0, .int .i64 r0, .int .i64 r1, .int .i64 r2, .int .i64 r3, .slice ep 0 ec]) (fun _ _ => 0)
  case atStart => exact ⟨rfl, by with_reducible (repeat' first | assumption | exact Below.refl _ _ | refine Below.drew ?_ | refine bdrewN ?_ _ | refine Below.setCell ?_ (by first | exact Nat.le_refl _ | (simp; done) | (simp; omega) | omega) _ | refine Below.alloc ?_ (by first | exact Nat.le_refl _ | (simp; done) | (simp; omega) | omega) _), by with_reducible (repeat' first | assumption | refine Own.drew ?_ | refine Own.drewN ?_ _ | (refine Own.at ?_; first | rfl | (simp; done)) | refine Own.past ?_ _)⟩
  case round =>
    obtain ⟨rfl, hB3, o3⟩ := hrel
    clear c0 f0 l0
    have c0 := o3.cell
    have f0 := o3.fro
    have l0 := o3.lt
    go_wp2
    go_ret
    exact ⟨by first | rfl | simp, by with_reducible (repeat' first | assumption | exact Below.refl _ _ | refine Below.drew ?_ | refine bdrewN ?_ _ | refine Below.setCell ?_ (by first | exact Nat.le_refl _ | (simp; done) | (simp; omega) | omega) _ | refine Below.alloc ?_ (by first | exact Nat.le_refl _ | (simp; done) | (simp; omega) | omega) _)⟩
/-- The entries of an argument stand as they were read. -/
def EV (w : World) (a : Ag) : Prop := ∃ es : List En, View En.cells 7 w (.slice a.ep a.en a.ec) es ∧ (∀ x ∈ es, I64 x.n) ∧ es.length ≤ 9223372036854775807
theorem darg_m (a : Ag) (w : World) (hE : EV w a) : Calls Tryz.prog 31 #[.agg #[.bool true, .int .i64 a.t, .int .i64 a.n, .string a.s, .bool a.b, .int .i64 a.c, .int .i64 a.r0, .int .i64 a.r1, .int .i64 a.r2, .int .i64 a.r3, .slice a.ep a.en a.ec]] w fun e w' => (∃ B : Bool, e = .returned (.bool B)) ∧ Below w.heap.size w w' := by
  obtain ⟨es, ⟨p, cap, e0, hc, hf⟩, hN, hl⟩ := hE
  obtain ⟨m, t, n, s, b, c, r0, r1, r2, r3, ep, en, ec⟩ := a
  injection e0 with e1 e2 e3
  simp only at e1 e2 e3
  cases hr : Ad.mayR r0 r1 r2 r3
  · exact (darg_mn t n s b c r0 r1 r2 r3 ep en ec w hr).mono fun e w' h => ⟨⟨_, h.1⟩, h.2⟩
  cases hv : vz5 t n s b c
  · exact (darg_mv t n s b c r0 r1 r2 r3 ep en ec w hr hv).mono fun e w' h => ⟨⟨_, h.1⟩, h.2⟩
  have hv2 : t = 0 ∧ n = 0 ∧ s = ⟨#[]⟩ ∧ b = false ∧ c = 0 := by unfold vz5 at hv; exact of_decide_eq_true hv
  obtain ⟨rfl, rfl, rfl, rfl, rfl⟩ := hv2
  by_cases h0 : 0 < es.length
  · obtain ⟨eb, eo, hp, hla, hcell⟩ := hf h0
    rw [hp] at e1
    subst e1
    exact darg_loop r0 r1 r2 r3 eb eo en ec es w hr hla hcell e2.symm (by omega) (by omega) hN
  · have : en = 0 := by omega
    subst this
    exact (darg_m0 r0 r1 r2 r3 ep ec w hr).mono fun e w' h => ⟨⟨_, h.1⟩, h.2⟩
end Go.Proofs.YtfpbcokfianjaaaGreat
