/- The ways of the document's Call where it refuses. New memory alone is made. · The ways of the document's Call where an argument is a fault, or cannot be taken for a number. New memory alone is made. -/
import Derived.Test.YtfpbcokfianjaaaGreatQNOmNTf
import Derived.Test.YtfpbcokfianjaaaGreatQNTwNOg
namespace Go.Proofs.YtfpbcokfianjaaaGreat
open Go.RowKit
set_option linter.all false
theorem args_s (w : World) (v : Value) (l : List Ag) (h : AV w v l) (hN : Hid (Nums l)) (hl : l.length ≤ 1099511627776) (hE : ∀ a ∈ l, EV w a) : Calls Tryz.prog 12 #[v] w fun e w' => (∃ mp mc ok, e = .returned (.tuple #[.slice mp l.length mc, .bool ok]) ∧ Hid (BV w' (.slice mp l.length mc) (l.map (·.many)) ∧ (l.any (·.many) = false → ok = !l.any nosB))) ∧ Below w.heap.size w w' :=
  (args_any w v l h hN hl hE).mono fun e w' ⟨⟨mv, ok, h1, h2, h3⟩, hb⟩ => by
    obtain ⟨mp, mc, rfl, _, _⟩ := Row.slice h2
    have hlen : (l.map (·.many)).length = l.length := List.length_map _
    rw [hlen] at h1 h2
    exact ⟨⟨mp, mc, ok, h1, Row.view bcell1_size h2, h3⟩, hb⟩
theorem any_many (l : List Ag) (h : l.any (·.many) = true) : l.any nosB = true := by
  rw [List.any_eq_true] at h ⊢
  obtain ⟨a, h1, h2⟩ := h
  exact ⟨a, h1, by unfold nosB; rw [h2]; rfl⟩
theorem map_any_id (l : List Ag) : (l.map (·.many)).any id = l.any (·.many) := by rw [List.any_map]; rfl
/-- What is refused, by the document's Takes and Args. -/
theorem refused {s : ByteArray} {l : List Ag} {ok : Bool} (h : (hasB (wlI s) (whI s) (l.length : Int) && !l.any nosB) = false) (h3 : l.any (·.many) = false → ok = !l.any nosB) (hok : ok = true) : (hasB (wlI s) (whI s) ((l.map (·.many)).length : Int) && !(l.map (·.many)).any id) = false := by
  rw [map_any_id, List.length_map]
  cases hm : l.any (·.many)
  · have := h3 hm
    rw [hok] at this
    have h5 : l.any nosB = false := by cases hh : l.any nosB <;> rw [hh] at this <;> first | rfl | cases this
    rw [h5] at h
    exact h
  · rw [Bool.and_comm]; rfl
set_option maxRecDepth 100000 in
set_option maxHeartbeats 1000000 in
theorem d_ref (s : ByteArray) (w : World) (v : Value) (x : Int) (l : List Ag) (hv : AV w v l) (hN : Hid (Nums l)) (hl : l.length ≤ 1099511627776) (hE : Hid (∀ a ∈ l, EV w a)) (hr : Hid ((hasB (wlI s) (whI s) (l.length : Int) && !l.any nosB) = false)) : Calls Tryz.prog 5 #[.string s, v, .int .i64 x] w fun e w' => e = .returned (.agg #[.int .i64 (4), .int .i64 (0), .string ⟨#[]⟩, .bool false, .int .i64 (8)]) ∧ Below w.heap.size w w' := by
  go_enter Tryz.func5, Tryz.ntmps5
  go_wp2_with (first | (go_at_call 12; refine (args_s _ _ _ (hv.keep (bal _ _)) hN hl (fun a ha => (hE.out a ha).keep (bal _ _))).mono ?_; rintro e wa ⟨⟨mp, mc, ok, rfl, hbv⟩, hbwa⟩; have hBwa : Below w.heap.size w wa := bup (by with_reducible (repeat' first | assumption | exact Below.refl _ _ | refine Below.drew ?_ | refine bdrewN ?_ _ | refine Below.setCell ?_ (by first | exact Nat.le_refl _ | (simp; done) | (simp; omega) | omega) _ | refine Below.alloc ?_ (by first | exact Nat.le_refl _ | (simp; done) | (simp; omega) | omega) _)) hbwa; have zwa := hBwa.size; have o0wa : Own wa (w.heap.size) #[.int .i64 0, .int .i64 0, .string ⟨#[]⟩, .bool false, .int .i64 0] := Own.keep (by with_reducible (repeat' first | assumption | refine Own.drew ?_ | refine Own.drewN ?_ _ | (refine Own.at ?_; first | rfl | (simp; done)) | refine Own.past ?_ _)) hbwa; have c0 := o0wa.cell; have f0 := o0wa.fro; have l0 := o0wa.lt; cases ok) | (go_at_call 13; refine (rtakes_any _ _ _ _ hbv.out.1 (by rw [List.length_map]; omega)).mono ?_; rintro e wt ⟨rfl, hbwt⟩; have hBwt : Below w.heap.size w wt := bup (by with_reducible (repeat' first | assumption | exact Below.refl _ _ | refine Below.drew ?_ | refine bdrewN ?_ _ | refine Below.setCell ?_ (by first | exact Nat.le_refl _ | (simp; done) | (simp; omega) | omega) _ | refine Below.alloc ?_ (by first | exact Nat.le_refl _ | (simp; done) | (simp; omega) | omega) _)) hbwt; have zwt := hBwt.size; have o0wt : Own wt (w.heap.size) #[.int .i64 0, .int .i64 0, .string ⟨#[]⟩, .bool false, .int .i64 0] := Own.keep (by with_reducible (repeat' first | assumption | refine Own.drew ?_ | refine Own.drewN ?_ _ | (refine Own.at ?_; first | rfl | (simp; done)) | refine Own.past ?_ _)) hbwt; have c0 := o0wt.cell; have f0 := o0wt.fro; have l0 := o0wt.lt; rw [refused hr.out hbv.out.2 rfl]) | (go_at_call 14; refine (derr_ok _ _ (by decide) (by decide)).mono ?_; rintro e wb ⟨rfl, hbwb⟩; have hBwb : Below w.heap.size w wb := bup (by with_reducible (repeat' first | assumption | exact Below.refl _ _ | refine Below.drew ?_ | refine bdrewN ?_ _ | refine Below.setCell ?_ (by first | exact Nat.le_refl _ | (simp; done) | (simp; omega) | omega) _ | refine Below.alloc ?_ (by first | exact Nat.le_refl _ | (simp; done) | (simp; omega) | omega) _)) hbwb; have zwb := hBwb.size; have o0wb : Own wb (w.heap.size) #[.int .i64 0, .int .i64 0, .string ⟨#[]⟩, .bool false, .int .i64 0] := Own.keep (by with_reducible (repeat' first | assumption | refine Own.drew ?_ | refine Own.drewN ?_ _ | (refine Own.at ?_; first | rfl | (simp; done)) | refine Own.past ?_ _)) hbwb; have c0 := o0wb.cell; have f0 := o0wb.fro; have l0 := o0wb.lt))
  all_goals (exact bodyPost_ret (v := (.agg #[.int .i64 (4), .int .i64 (0), .string ⟨#[]⟩, .bool false, .int .i64 (8)])) (by simp [results, Tryz.results5, go_sem, c0, f0, l0]) rfl ⟨rfl, by with_reducible (repeat' first | assumption | exact Below.refl _ _ | refine Below.drew ?_ | refine bdrewN ?_ _ | refine Below.setCell ?_ (by first | exact Nat.le_refl _ | (simp; done) | (simp; omega) | omega) _ | refine Below.alloc ?_ (by first | exact Nat.le_refl _ | (simp; done) | (simp; omega) | omega) _)⟩)
end Go.Proofs.YtfpbcokfianjaaaGreat
namespace Go.Proofs.YtfpbcokfianjaaaGreat
open Go.RowKit
set_option linter.all false
theorem ok_t {s : ByteArray} {l : List Ag} {ok : Bool} (h : (hasB (wlI s) (whI s) (l.length : Int) && !l.any nosB) = true) (h3 : l.any (·.many) = false → ok = !l.any nosB) : ok = true := by
  rw [Bool.and_eq_true] at h
  have h5 : l.any nosB = false := by simpa using h.2
  have hm : l.any (·.many) = false := by
    cases hh : l.any (·.many)
    · rfl
    · rw [any_many l hh] at h5; cases h5
  rw [h3 hm, h5]; rfl
theorem taken {s : ByteArray} {l : List Ag} (h : (hasB (wlI s) (whI s) (l.length : Int) && !l.any nosB) = true) : (hasB (wlI s) (whI s) ((l.map (·.many)).length : Int) && !(l.map (·.many)).any id) = true := by
  rw [map_any_id, List.length_map]
  rw [Bool.and_eq_true] at h ⊢
  refine ⟨h.1, ?_⟩
  have h5 : l.any nosB = false := by simpa using h.2
  cases hh : l.any (·.many)
  · rfl
  · rw [any_many l hh] at h5; cases h5
theorem dfault_v (w : World) (v : Value) (l : List Ag) (h : AV w v l) (hl : l.length ≤ 9223372036854775807) (hN : Hid (Nums l)) (h0 : 0 < l.length) : Calls Tryz.prog 15 #[v] w fun e w' => e = .returned (faultOut (firstF l)) ∧ Below w.heap.size w w' := by
  obtain ⟨p, c, rfl, hc, hf⟩ := h
  obtain ⟨b, o, rfl, hlt, HA⟩ := hf h0
  exact dfault_y w b o c l.length l hlt HA rfl hc h0 hl hN
set_option maxRecDepth 100000 in
set_option maxHeartbeats 1000000 in
theorem d_fault (s : ByteArray) (w : World) (v : Value) (x : Int) (l : List Ag) (hv : AV w v l) (hN : Hid (Nums l)) (hl40 : l.length ≤ 1099511627776) (h0 : 0 < l.length) (hE : Hid (∀ a ∈ l, EV w a)) (hr : Hid ((hasB (wlI s) (whI s) (l.length : Int) && !l.any nosB) = true)) (a : Ag) (ha : firstF l = some a) : Calls Tryz.prog 5 #[.string s, v, .int .i64 x] w fun e w' => e = .returned (vOf a) ∧ Below w.heap.size w w' := by
  unfold vOf
  go_enter Tryz.func5, Tryz.ntmps5
  go_wp2_with (first | (go_at_call 12; refine (args_s _ _ _ (hv.keep (bal _ _)) hN hl40 (fun a ha => (hE.out a ha).keep (bal _ _))).mono ?_; rintro e wa ⟨⟨mp, mc, ok, rfl, hbv⟩, hbwa⟩; have hBwa : Below w.heap.size w wa := bup (by with_reducible (repeat' first | assumption | exact Below.refl _ _ | refine Below.drew ?_ | refine bdrewN ?_ _ | refine Below.setCell ?_ (by first | exact Nat.le_refl _ | (simp; done) | (simp; omega) | omega) _ | refine Below.alloc ?_ (by first | exact Nat.le_refl _ | (simp; done) | (simp; omega) | omega) _)) hbwa; have zwa := hBwa.size; have o0wa : Own wa (w.heap.size) #[.int .i64 0, .int .i64 0, .string ⟨#[]⟩, .bool false, .int .i64 0] := Own.keep (by with_reducible (repeat' first | assumption | refine Own.drew ?_ | refine Own.drewN ?_ _ | (refine Own.at ?_; first | rfl | (simp; done)) | refine Own.past ?_ _)) hbwa; have c0 := o0wa.cell; have f0 := o0wa.fro; have l0 := o0wa.lt; obtain rfl := ok_t hr.out hbv.out.2) | (go_at_call 13; refine (rtakes_any _ _ _ _ hbv.out.1 (by rw [List.length_map]; omega)).mono ?_; rintro e wt ⟨rfl, hbwt⟩; have hBwt : Below w.heap.size w wt := bup (by with_reducible (repeat' first | assumption | exact Below.refl _ _ | refine Below.drew ?_ | refine bdrewN ?_ _ | refine Below.setCell ?_ (by first | exact Nat.le_refl _ | (simp; done) | (simp; omega) | omega) _ | refine Below.alloc ?_ (by first | exact Nat.le_refl _ | (simp; done) | (simp; omega) | omega) _)) hbwt; have zwt := hBwt.size; have o0wt : Own wt (w.heap.size) #[.int .i64 0, .int .i64 0, .string ⟨#[]⟩, .bool false, .int .i64 0] := Own.keep (by with_reducible (repeat' first | assumption | refine Own.drew ?_ | refine Own.drewN ?_ _ | (refine Own.at ?_; first | rfl | (simp; done)) | refine Own.past ?_ _)) hbwt; have c0 := o0wt.cell; have f0 := o0wt.fro; have l0 := o0wt.lt; rw [taken hr.out]) | (go_at_call 15; refine (dfault_v _ _ _ (hv.keep (by assumption)) (by omega) hN h0).mono ?_; rintro e wf ⟨rfl, hbwf⟩; have hBwf : Below w.heap.size w wf := bup (by with_reducible (repeat' first | assumption | exact Below.refl _ _ | refine Below.drew ?_ | refine bdrewN ?_ _ | refine Below.setCell ?_ (by first | exact Nat.le_refl _ | (simp; done) | (simp; omega) | omega) _ | refine Below.alloc ?_ (by first | exact Nat.le_refl _ | (simp; done) | (simp; omega) | omega) _)) hbwf; have zwf := hBwf.size; have o0wf : Own wf (w.heap.size) #[.int .i64 0, .int .i64 0, .string ⟨#[]⟩, .bool false, .int .i64 0] := Own.keep (by with_reducible (repeat' first | assumption | refine Own.drew ?_ | refine Own.drewN ?_ _ | (refine Own.at ?_; first | rfl | (simp; done)) | refine Own.past ?_ _)) hbwf; have c0 := o0wf.cell; have f0 := o0wf.fro; have l0 := o0wf.lt; rw [ha]; dsimp only [faultOut, vOf]))
  exact bodyPost_ret (v := (.agg #[.int .i64 a.t, .int .i64 a.n, .string a.s, .bool a.b, .int .i64 a.c])) (by simp [results, Tryz.results5, go_sem, c0, f0, l0]) rfl ⟨rfl, by with_reducible (repeat' first | assumption | exact Below.refl _ _ | refine Below.drew ?_ | refine bdrewN ?_ _ | refine Below.setCell ?_ (by first | exact Nat.le_refl _ | (simp; done) | (simp; omega) | omega) _ | refine Below.alloc ?_ (by first | exact Nat.le_refl _ | (simp; done) | (simp; omega) | omega) _)⟩
end Go.Proofs.YtfpbcokfianjaaaGreat
