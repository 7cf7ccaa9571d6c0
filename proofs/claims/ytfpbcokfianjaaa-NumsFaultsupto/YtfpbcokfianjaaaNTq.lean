/- The walk of NumsDivides under what its calls answer: the law returns true. New memory alone is made. -/
import Derived.Test.YtfpbcokfianjaaaNTp
import Derived.Test.YtfpbcokfianjaaaNTo
namespace Go.Proofs.Ytfpbcokfianjaaa
open Go.RowKit
set_option linter.all false
theorem nev (t n : Int) (s : ByteArray) (b : Bool) (c : Int) (t' n' : Int) (s' : ByteArray) (b' : Bool) (c' : Int) (w : World) : (binOp .neq 31 (.agg #[.int .i64 (t), .int .i64 (n), .string s, .bool b, .int .i64 (c)]) (.agg #[.int .i64 (t'), .int .i64 (n'), .string s', .bool b', .int .i64 (c')])).run Try.prog w = .ok (.bool (!sameB t n s b c t' n' s' b' c')) w := by
  rw [run_neq_struct, run_equalIn_agg w 9999 31 _ _ (by kernel_rfl) (by kernel_rfl)]
  unfold sameB
  go_simp
  by_cases h1 : t = t'
  · by_cases h2 : n = n'
    · by_cases h3 : s = s'
      · by_cases h4 : b = b'
        · by_cases h5 : c = c' <;> simp [h1, h2, h3, h4, h5]
        · simp [h1, h2, h3, h4]
      · have h3' : ¬ s.toList = s'.toList := fun h => h3 (toList_inj h)
        simp [h1, h2, h3, h3']
    · simp [h1, h2]
  · simp [h1]
set_option maxRecDepth 100000 in
set_option maxHeartbeats 1000000 in
theorem law0 (a0 b0 a b G L : Int) (w : World) (ha : a0.tmod 100000 = a) (hb : b0.tmod 100000 = b) (hwa : wrap64 a = a) (hwb : wrap64 b = b) (hx : wrap64 (a * 10000) = a * 10000) (hy : wrap64 (b * 10000) = b * 10000) (hnx : wrap64 (-(a * 10000)) = -(a * 10000)) (hny : wrap64 (-(b * 10000)) = -(b * 10000)) (hG0 : 0 ≤ G) (hL0 : 0 ≤ L) (hz : (a = 0 ∨ b = 0) → L = 0 ∧ (G = a * 10000 ∨ G = -(a * 10000) ∨ G = b * 10000 ∨ G = -(b * 10000)))
    (hn : a ≠ 0 → b ≠ 0 → (0 < G ∧ (a * 10000).tmod G = 0 ∧ (b * 10000).tmod G = 0 ∧ L.tmod (a * 10000) = 0 ∧ L.tmod (b * 10000) = 0) ∧ ∃ q r : Int, G.tdiv 10000 = q ∧ L.tdiv 10000 = r ∧ wrap64 q = q ∧ wrap64 r = r ∧ wrap64 (q * r) = q * r ∧ wrap64 (a * b) = a * b ∧ wrap64 (-(a * b)) = -(a * b) ∧ q * r = ((a * b).natAbs : Int))
    (hG : ∀ (W : World) (bl : Nat) (u v : Int), NB W bl [u, v] → ((u = a * 10000 ∧ v = b * 10000) ∨ (u = b * 10000 ∧ v = -(a * 10000))) → Calls Try.prog 15 #[.string ⟨#[71, 67, 68]⟩, .slice (some ⟨bl, 0, none⟩) 2 2] W fun e w' => e = .returned (.agg #[.int .i64 (1), .int .i64 (G), .string ⟨#[]⟩, .bool false, .int .i64 (0)]) ∧ Below W.heap.size W w')
    (hL : ∀ (W : World) (bl : Nat) (u v : Int), NB W bl [u, v] → ((u = a * 10000 ∧ v = b * 10000) ∨ (u = -(b * 10000) ∧ v = a * 10000)) → Calls Try.prog 15 #[.string ⟨#[76, 67, 77]⟩, .slice (some ⟨bl, 0, none⟩) 2 2] W fun e w' => e = .returned (.agg #[.int .i64 (1), .int .i64 (L), .string ⟨#[]⟩, .bool false, .int .i64 (0)]) ∧ Below W.heap.size W w') : Calls Try.prog 6 #[.int .i64 a0, .int .i64 b0] w fun e w' => e = .returned (.bool true) ∧ Below w.heap.size w w' := by
  have mixed : Try.prog.follows .mixedOrders = true := by kernel_rfl
  have hnx2 : IntKind.i64.wrap (-(a * 10000)) = -(a * 10000) := by rw [IntKind.wrap_i64]; unfold wrap64 at hnx; exact hnx
  have hny2 : IntKind.i64.wrap (-(b * 10000)) = -(b * 10000) := by rw [IntKind.wrap_i64]; unfold wrap64 at hny; exact hny
  have hd1 : decide (G < 0) = false := decide_eq_false (by omega)
  have hd2 : decide (L < 0) = false := decide_eq_false (by omega)
  have HZ : Hid _ := hz
  have HN : Hid _ := hn
  clear hz hn
  have HG : Hid _ := hG
  have HL : Hid _ := hL
  clear hG hL
  have e1 := nev (1) (G) ⟨#[]⟩ false (0) (1) (G) ⟨#[]⟩ false (0)
  have e2 := nev (1) (L) ⟨#[]⟩ false (0) (1) (L) ⟨#[]⟩ false (0)
  rw [show sameB (1) (G) ⟨#[]⟩ false (0) (1) (G) ⟨#[]⟩ false (0) = true by simp [sameB]] at e1
  rw [show sameB (1) (L) ⟨#[]⟩ false (0) (1) (L) ⟨#[]⟩ false (0) = true by simp [sameB]] at e2
  go_enter Try.func6, Try.ntmps6
  go_wp2_with (first | (go_at_call 11; refine (known_law _).mono ?_; rintro e wk ⟨rfl, hbwk⟩; have hBwk : Below w.heap.size w wk := bup (by with_reducible (repeat' first | assumption | exact Below.refl _ _ | refine Below.drew ?_ | refine bdrewN ?_ _ | refine Below.setCell ?_ (by first | exact Nat.le_refl _ | (simp; done) | (simp; omega) | omega) _ | refine Below.alloc ?_ (by first | exact Nat.le_refl _ | (simp; done) | (simp; omega) | omega) _)) hbwk; have zwk := hBwk.size) | (go_at_call_has 15 (Value.string ⟨#[71, 67, 68]⟩); refine (HG.out _ _ _ _ (by first | with_reducible exact nb_at2 (by first | rfl | (simp; done)) _ _ _ | with_reducible exact NB.drew (nb_at2 (by first | rfl | (simp; done)) _ _ _)) (by with_reducible first | exact .inl ⟨rfl, rfl⟩ | exact .inr ⟨rfl, rfl⟩ | exact .inr ⟨rfl, hnx2⟩ | exact .inr ⟨hny2, rfl⟩)).mono ?_; rintro e wg ⟨rfl, hbwg⟩; have hBwg : Below w.heap.size w wg := bup (by with_reducible (repeat' first | assumption | exact Below.refl _ _ | refine Below.drew ?_ | refine bdrewN ?_ _ | refine Below.setCell ?_ (by first | exact Nat.le_refl _ | (simp; done) | (simp; omega) | omega) _ | refine Below.alloc ?_ (by first | exact Nat.le_refl _ | (simp; done) | (simp; omega) | omega) _)) hbwg; have zwg := hBwg.size) | (go_at_call_has 15 (Value.string ⟨#[76, 67, 77]⟩); refine (HL.out _ _ _ _ (by first | with_reducible exact nb_at2 (by first | rfl | (simp; done)) _ _ _ | with_reducible exact NB.drew (nb_at2 (by first | rfl | (simp; done)) _ _ _)) (by with_reducible first | exact .inl ⟨rfl, rfl⟩ | exact .inr ⟨rfl, rfl⟩ | exact .inr ⟨rfl, hnx2⟩ | exact .inr ⟨hny2, rfl⟩)).mono ?_; rintro e wl ⟨rfl, hbwl⟩; have hBwl : Below w.heap.size w wl := bup (by with_reducible (repeat' first | assumption | exact Below.refl _ _ | refine Below.drew ?_ | refine bdrewN ?_ _ | refine Below.setCell ?_ (by first | exact Nat.le_refl _ | (simp; done) | (simp; omega) | omega) _ | refine Below.alloc ?_ (by first | exact Nat.le_refl _ | (simp; done) | (simp; omega) | omega) _)) hbwl; have zwl := hBwl.size; have o0wl : Own wl (wg.heap.size) #[.int .i64 (1), .int .i64 (G), .string ⟨#[]⟩, .bool false, .int .i64 (0)] := Own.keep (by with_reducible (repeat' first | assumption | refine Own.drew ?_ | refine Own.drewN ?_ _ | (refine Own.at ?_; first | rfl | (simp; done)) | refine Own.past ?_ _)) hbwl; have c0 := o0wl.cell; have f0 := o0wl.fro; have l0 := o0wl.lt))
  obtain ⟨w0, hw0⟩ : ∃ w0, wl.alloc (.cells #[.int .i64 (1), .int .i64 (L), .string ⟨#[]⟩, .bool false, .int .i64 (0)] 31) = w0 := ⟨_, rfl⟩
  obtain ⟨g, hg⟩ : ∃ g, wg.heap.size = g := ⟨_, rfl⟩
  obtain ⟨l, hl⟩ : ∃ l, wl.heap.size = l := ⟨_, rfl⟩
  have oG : Own w0 g #[.int .i64 (1), .int .i64 (G), .string ⟨#[]⟩, .bool false, .int .i64 (0)] := by rw [← hw0, ← hg]; exact Own.past o0wl _
  have oL : Own w0 l #[.int .i64 (1), .int .i64 (L), .string ⟨#[]⟩, .bool false, .int .i64 (0)] := by rw [← hw0, ← hl]; exact Own.new _ _ _
  have hB0 : Below w.heap.size w w0 := by rw [← hw0]; exact hBwl.alloc zwl _
  rw [hw0, hg, hl]
  clear hw0 hg hl c0 f0 l0 o0wl hbwl hBwl hbwg hBwg hbwk hBwk
  have z0 := hB0.size
  have c0 := oG.cell
  have f0 := oG.fro
  have l0 := oG.lt
  have c1 := oL.cell
  have f1 := oL.fro
  have l1 := oL.lt
  go_region_held3 (fun w' => w'.cell? ⟨g, 0, none⟩ = some (.int .i64 (1)) ∧ w'.cell? ⟨g, 1, none⟩ = some (.int .i64 (G)) ∧ w'.cell? ⟨g, 2, none⟩ = some (.string ⟨#[]⟩) ∧ w'.cell? ⟨g, 3, none⟩ = some (.bool false) ∧ w'.cell? ⟨g, 4, none⟩ = some (.int .i64 (0)) ∧ w'.cell? ⟨l, 0, none⟩ = some (.int .i64 (1)) ∧ w'.cell? ⟨l, 1, none⟩ = some (.int .i64 (L)) ∧ w'.cell? ⟨l, 2, none⟩ = some (.string ⟨#[]⟩) ∧ w'.cell? ⟨l, 3, none⟩ = some (.bool false) ∧ w'.cell? ⟨l, 4, none⟩ = some (.int .i64 (0))) ((repeat' apply And.intro) <;> (first | (go_keep; done) | (go_simp; done))) (first | (go_at_call_has 15 (Value.string ⟨#[71, 67, 68]⟩); refine (HG.out _ _ _ _ (by first | with_reducible exact nb_at2 (by first | rfl | (simp; done)) _ _ _ | with_reducible exact NB.drew (nb_at2 (by first | rfl | (simp; done)) _ _ _)) (by with_reducible first | exact .inl ⟨rfl, rfl⟩ | exact .inr ⟨rfl, rfl⟩ | exact .inr ⟨rfl, hnx2⟩ | exact .inr ⟨hny2, rfl⟩)).mono ?_; rintro e wc ⟨rfl, hbwc⟩; have hBwc : Below w.heap.size w wc := bup (by with_reducible (repeat' first | assumption | exact Below.refl _ _ | refine Below.drew ?_ | refine bdrewN ?_ _ | refine Below.setCell ?_ (by first | exact Nat.le_refl _ | (simp; done) | (simp; omega) | omega) _ | refine Below.alloc ?_ (by first | exact Nat.le_refl _ | (simp; done) | (simp; omega) | omega) _)) hbwc; have zwc := hBwc.size; have o0wc : Own wc (g) #[.int .i64 (1), .int .i64 (G), .string ⟨#[]⟩, .bool false, .int .i64 (0)] := Own.keep (by with_reducible (repeat' first | assumption | refine Own.drew ?_ | refine Own.drewN ?_ _ | (refine Own.at ?_; first | rfl | (simp; done)) | refine Own.past ?_ _)) hbwc; have c0 := o0wc.cell; have f0 := o0wc.fro; have l0 := o0wc.lt; have o1wc : Own wc (l) #[.int .i64 (1), .int .i64 (L), .string ⟨#[]⟩, .bool false, .int .i64 (0)] := Own.keep (by with_reducible (repeat' first | assumption | refine Own.drew ?_ | refine Own.drewN ?_ _ | (refine Own.at ?_; first | rfl | (simp; done)) | refine Own.past ?_ _)) hbwc; have c1 := o1wc.cell; have f1 := o1wc.fro; have l1 := o1wc.lt) | (go_at_call_has 15 (Value.string ⟨#[76, 67, 77]⟩); refine (HL.out _ _ _ _ (by first | with_reducible exact nb_at2 (by first | rfl | (simp; done)) _ _ _ | with_reducible exact NB.drew (nb_at2 (by first | rfl | (simp; done)) _ _ _)) (by with_reducible first | exact .inl ⟨rfl, rfl⟩ | exact .inr ⟨rfl, rfl⟩ | exact .inr ⟨rfl, hnx2⟩ | exact .inr ⟨hny2, rfl⟩)).mono ?_; rintro e wd ⟨rfl, hbwd⟩; have hBwd : Below w.heap.size w wd := bup (by with_reducible (repeat' first | assumption | exact Below.refl _ _ | refine Below.drew ?_ | refine bdrewN ?_ _ | refine Below.setCell ?_ (by first | exact Nat.le_refl _ | (simp; done) | (simp; omega) | omega) _ | refine Below.alloc ?_ (by first | exact Nat.le_refl _ | (simp; done) | (simp; omega) | omega) _)) hbwd; have zwd := hBwd.size; have o0wd : Own wd (g) #[.int .i64 (1), .int .i64 (G), .string ⟨#[]⟩, .bool false, .int .i64 (0)] := Own.keep (by with_reducible (repeat' first | assumption | refine Own.drew ?_ | refine Own.drewN ?_ _ | (refine Own.at ?_; first | rfl | (simp; done)) | refine Own.past ?_ _)) hbwd; have c0 := o0wd.cell; have f0 := o0wd.fro; have l0 := o0wd.lt; have o1wd : Own wd (l) #[.int .i64 (1), .int .i64 (L), .string ⟨#[]⟩, .bool false, .int .i64 (0)] := Own.keep (by with_reducible (repeat' first | assumption | refine Own.drew ?_ | refine Own.drewN ?_ _ | (refine Own.at ?_; first | rfl | (simp; done)) | refine Own.past ?_ _)) hbwd; have c1 := o1wd.cell; have f1 := o1wd.fro; have l1 := o1wd.lt))
  clear hb HG HL e1 e2 ha
  by_cases h0 : a = 0 ∨ b = 0
  · obtain ⟨hL1, hq⟩ := HZ.out h0
    have hL2 : (L == 0) = true := by simp; exact hL1
    have h02 : ((a == 0) = true) ∨ ((a == 0) = false ∧ (b == 0) = true) := by
      by_cases q : a = 0
      · exact .inl (by simp; exact q)
      · exact .inr ⟨by simp; exact q, by simp; omega⟩
    have HQ : Hid _ := hq
    clear hL1 hq h0 HZ HN
    rcases h02 with h01 | ⟨h01, h03⟩
    · skip
      by_cases q0 : G = a * 10000
      · have q0' : (G == a * 10000) = true := by simp; exact q0
        clear q0
        go_wp2
        go_ret
        exact ⟨retBl (by first | rfl | (simp; done) | (simp; omega)), by with_reducible (repeat' first | assumption | exact Below.refl _ _ | refine Below.drew ?_ | refine bdrewN ?_ _ | refine Below.setCell ?_ (by first | exact Nat.le_refl _ | (simp; done) | (simp; omega) | omega) _ | refine Below.alloc ?_ (by first | exact Nat.le_refl _ | (simp; done) | (simp; omega) | omega) _)⟩
      have q0' : (G == a * 10000) = false := by simp; exact q0
      by_cases q1 : G = -(a * 10000)
      · have q1' : (G == -(a * 10000)) = true := by simp; exact q1
        clear q1
        go_wp2
        go_ret
        exact ⟨retBl (by first | rfl | (simp; done) | (simp; omega)), by with_reducible (repeat' first | assumption | exact Below.refl _ _ | refine Below.drew ?_ | refine bdrewN ?_ _ | refine Below.setCell ?_ (by first | exact Nat.le_refl _ | (simp; done) | (simp; omega) | omega) _ | refine Below.alloc ?_ (by first | exact Nat.le_refl _ | (simp; done) | (simp; omega) | omega) _)⟩
      have q1' : (G == -(a * 10000)) = false := by simp; exact q1
      by_cases q2 : G = b * 10000
      · have q2' : (G == b * 10000) = true := by simp; exact q2
        clear q2
        go_wp2
        go_ret
        exact ⟨retBl (by first | rfl | (simp; done) | (simp; omega)), by with_reducible (repeat' first | assumption | exact Below.refl _ _ | refine Below.drew ?_ | refine bdrewN ?_ _ | refine Below.setCell ?_ (by first | exact Nat.le_refl _ | (simp; done) | (simp; omega) | omega) _ | refine Below.alloc ?_ (by first | exact Nat.le_refl _ | (simp; done) | (simp; omega) | omega) _)⟩
      have q2' : (G == b * 10000) = false := by simp; exact q2
      have q3' : (G == -(b * 10000)) = true := by simp; have := HQ.out; omega
      clear q0 q1 q2
      go_wp2
      go_ret
      exact ⟨retBl (by first | rfl | (simp; done) | (simp; omega)), by with_reducible (repeat' first | assumption | exact Below.refl _ _ | refine Below.drew ?_ | refine bdrewN ?_ _ | refine Below.setCell ?_ (by first | exact Nat.le_refl _ | (simp; done) | (simp; omega) | omega) _ | refine Below.alloc ?_ (by first | exact Nat.le_refl _ | (simp; done) | (simp; omega) | omega) _)⟩
    · skip
      by_cases q0 : G = a * 10000
      · have q0' : (G == a * 10000) = true := by simp; exact q0
        clear q0
        go_wp2
        go_ret
        exact ⟨retBl (by first | rfl | (simp; done) | (simp; omega)), by with_reducible (repeat' first | assumption | exact Below.refl _ _ | refine Below.drew ?_ | refine bdrewN ?_ _ | refine Below.setCell ?_ (by first | exact Nat.le_refl _ | (simp; done) | (simp; omega) | omega) _ | refine Below.alloc ?_ (by first | exact Nat.le_refl _ | (simp; done) | (simp; omega) | omega) _)⟩
      have q0' : (G == a * 10000) = false := by simp; exact q0
      by_cases q1 : G = -(a * 10000)
      · have q1' : (G == -(a * 10000)) = true := by simp; exact q1
        clear q1
        go_wp2
        go_ret
        exact ⟨retBl (by first | rfl | (simp; done) | (simp; omega)), by with_reducible (repeat' first | assumption | exact Below.refl _ _ | refine Below.drew ?_ | refine bdrewN ?_ _ | refine Below.setCell ?_ (by first | exact Nat.le_refl _ | (simp; done) | (simp; omega) | omega) _ | refine Below.alloc ?_ (by first | exact Nat.le_refl _ | (simp; done) | (simp; omega) | omega) _)⟩
      have q1' : (G == -(a * 10000)) = false := by simp; exact q1
      by_cases q2 : G = b * 10000
      · have q2' : (G == b * 10000) = true := by simp; exact q2
        clear q2
        go_wp2
        go_ret
        exact ⟨retBl (by first | rfl | (simp; done) | (simp; omega)), by with_reducible (repeat' first | assumption | exact Below.refl _ _ | refine Below.drew ?_ | refine bdrewN ?_ _ | refine Below.setCell ?_ (by first | exact Nat.le_refl _ | (simp; done) | (simp; omega) | omega) _ | refine Below.alloc ?_ (by first | exact Nat.le_refl _ | (simp; done) | (simp; omega) | omega) _)⟩
      have q2' : (G == b * 10000) = false := by simp; exact q2
      have q3' : (G == -(b * 10000)) = true := by simp; have := HQ.out; omega
      clear q0 q1 q2
      go_wp2
      go_ret
      exact ⟨retBl (by first | rfl | (simp; done) | (simp; omega)), by with_reducible (repeat' first | assumption | exact Below.refl _ _ | refine Below.drew ?_ | refine bdrewN ?_ _ | refine Below.setCell ?_ (by first | exact Nat.le_refl _ | (simp; done) | (simp; omega) | omega) _ | refine Below.alloc ?_ (by first | exact Nat.le_refl _ | (simp; done) | (simp; omega) | omega) _)⟩
  · have ha0 : a ≠ 0 := fun q => h0 (.inl q)
    have hb0 : b ≠ 0 := fun q => h0 (.inr q)
    obtain ⟨⟨g1, g2, g3, g4, g5⟩, q, r, k1, k2, k3, k4, k5, k6, k7, k8⟩ := HN.out ha0 hb0
    have a1 : (a == 0) = false := by simp; exact ha0
    have a2 : (b == 0) = false := by simp; exact hb0
    have a3 : (a * 10000 == 0) = false := by simp; exact ha0
    have a4 : (b * 10000 == 0) = false := by simp; exact hb0
    have a5 : (G == 0) = false := by simp; omega
    have K8 : Hid _ := k8
    have a6 : ¬ G = 0 := by omega
    have a7 : ¬ a = 0 := ha0
    have a8 : ¬ b = 0 := hb0
    have a9 : ¬ a * 10000 = 0 := by omega
    have a10 : ¬ b * 10000 = 0 := by omega
    clear h0 ha0 hb0 HZ HN k8
    by_cases hp : a * b < 0
    · have k9 : (q * r == -(a * b)) = true := by simp; have := K8.out; omega
      go_wp2
      go_ret
      exact ⟨retBl (by first | rfl | (simp; done) | (simp; omega)), by with_reducible (repeat' first | assumption | exact Below.refl _ _ | refine Below.drew ?_ | refine bdrewN ?_ _ | refine Below.setCell ?_ (by first | exact Nat.le_refl _ | (simp; done) | (simp; omega) | omega) _ | refine Below.alloc ?_ (by first | exact Nat.le_refl _ | (simp; done) | (simp; omega) | omega) _)⟩
    · have k9 : (q * r == a * b) = true := by simp; have := K8.out; omega
      go_wp2
      go_ret
      exact ⟨retBl (by first | rfl | (simp; done) | (simp; omega)), by with_reducible (repeat' first | assumption | exact Below.refl _ _ | refine Below.drew ?_ | refine bdrewN ?_ _ | refine Below.setCell ?_ (by first | exact Nat.le_refl _ | (simp; done) | (simp; omega) | omega) _ | refine Below.alloc ?_ (by first | exact Nat.le_refl _ | (simp; done) | (simp; omega) | omega) _)⟩
end Go.Proofs.Ytfpbcokfianjaaa
