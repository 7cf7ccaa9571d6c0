/- The contracts of the law's own number, single and call: a row of numbers handed to nums.Call. New memory alone is made. The condition: at most 16 numbers. -/
import Derived.Test.YtfpbcokfianjaaaNTc
import Derived.Test.YtfpbcokfianjaaaNR
namespace Go.Proofs.Ytfpbcokfianjaaa
open Go.RowKit
set_option linter.all false
/-- A single argument; one of a number. -/
def argV (t n : Int) (s : ByteArray) (b : Bool) (c : Int) : Ag := ⟨false, t, n, s, b, c, 0, 0, 0, 0, none, 0, 0⟩
def argN (x : Int) : Ag := argV 1 x ⟨#[]⟩ false 0
theorem Ag.csize (a : Ag) : a.cells.size = 11 := rfl
theorem Ag.one (a : Ag) : ∀ u ∈ a.cells.toList, u.oneCell' = true := by
  intro u hu
  simp [Ag.cells] at hu
  rcases hu with h | h | h | h | h | h | h | h | h | h | h <;> subst h <;> rfl
theorem number_any (x : Int) (w : World) : Calls Try.prog 20 #[.int .i64 x] w fun e w' => e = .returned (.agg #[.int .i64 (1), .int .i64 (x), .string ⟨#[]⟩, .bool false, .int .i64 (0)]) ∧ Below w.heap.size w w' := by
  go_enter Try.func20, Try.ntmps20
  go_wp2
  exact bodyPost_ret (v := (.agg #[.int .i64 (1), .int .i64 (x), .string ⟨#[]⟩, .bool false, .int .i64 (0)])) (by simp [results, Try.results20, go_sem]) rfl ⟨rfl, by with_reducible (repeat' first | assumption | exact Below.refl _ _ | refine Below.drew ?_ | refine bdrewN ?_ _ | refine Below.setCell ?_ (by first | exact Nat.le_refl _ | (simp; done) | (simp; omega) | omega) _ | refine Below.alloc ?_ (by first | exact Nat.le_refl _ | (simp; done) | (simp; omega) | omega) _)⟩
theorem single_any (t n : Int) (s : ByteArray) (b : Bool) (c : Int) (w : World) : Calls Try.prog 13 #[.agg #[.int .i64 t, .int .i64 n, .string s, .bool b, .int .i64 c]] w fun e w' => e = .returned (.agg #[.bool false, .int .i64 t, .int .i64 n, .string s, .bool b, .int .i64 c, .int .i64 0, .int .i64 0, .int .i64 0, .int .i64 0, .slice none 0 0]) ∧ Below w.heap.size w w' := by
  go_enter Try.func13, Try.ntmps13
  go_wp2
  exact bodyPost_ret (v := .agg #[.bool false, .int .i64 t, .int .i64 n, .string s, .bool b, .int .i64 c, .int .i64 0, .int .i64 0, .int .i64 0, .int .i64 0, .slice none 0 0]) (by simp [results, Try.results13, go_sem]) rfl ⟨rfl, by with_reducible (repeat' first | assumption | exact Below.refl _ _ | refine Below.drew ?_ | refine bdrewN ?_ _ | refine Below.setCell ?_ (by first | exact Nat.le_refl _ | (simp; done) | (simp; omega) | omega) _ | refine Below.alloc ?_ (by first | exact Nat.le_refl _ | (simp; done) | (simp; omega) | omega) _)⟩
theorem infoAg : (Try.prog.info? 37).map (fun i => (i.zero, i.size, i.bytes)) = some (some (.agg #[.bool false, .int .i64 0, .int .i64 0, .string ⟨#[]⟩, .bool false, .int .i64 0, .int .i64 0, .int .i64 0, .int .i64 0, .int .i64 0, .slice none 0 0]), 11, 112) := by kernel_rfl
theorem news_pl (W : World) (cs : Array Value) (T : TypeId) : ∀ (j : Nat) (u : Value), cs.toList[j]? = some u → (W.alloc (.cells cs T)).cell? ((⟨W.heap.size, 0, none⟩ : Addr).add j) = some u := fun j u h => by
  have h1 := (Own.new W cs T).cell j
  have e : ((⟨W.heap.size, 0, none⟩ : Addr).add j) = ⟨W.heap.size, j, none⟩ := by simp [Addr.add]; omega
  rw [e, h1]
  simpa using h
theorem app_rowv {α : Type} {c : α → Array Value} {sz : Nat} {e : TypeId} {w W W' w5 : World} {u v' : Value} {l : List α} {t : α} (hB : Below w.heap.size w W') (hr : Row c sz e W w.heap.size u l)
    (ho : w5.ownsRow w.heap.size e sz v' (l.length + 1) (flatC c l ++ (c t).toList)) (hg : W'.grownBy w5 u.ownBlock) : Row c sz e w5 w.heap.size v' (l ++ [t]) ∧ Below w.heap.size w w5 := by
  refine ⟨?_, Below.grown hB hg hB.size (fun k hk => (Row.lt hr k hk).1)⟩
  unfold Row
  rw [flatC_snoc, List.length_append]
  exact ho
theorem take_map {α β : Type} {f : α → β} {l : List α} {i : Nat} {x : α} (h : l[i]? = some x) : (l.take i).map f ++ [f x] = (l.take (i + 1)).map f := by
  rw [List.take_succ, h, Option.toList_some, List.map_append]; rfl
set_option maxRecDepth 100000 in
set_option maxHeartbeats 1000000 in
theorem call_any (s : ByteArray) (w : World) (b n : Nat) (l : List Int) (hb : NB w b l) (hn : l.length = n) (h16 : n ≤ 16) (rt rn : Int) (rs : ByteArray) (rb : Bool) (rc : Int)
    (hC : ∀ (W : World) (v : Value), AV W v (l.map argN) → Calls Try.prog 14 #[.string s, v, .int .i64 10] W fun e w' => e = .returned (.agg #[.int .i64 rt, .int .i64 rn, .string rs, .bool rb, .int .i64 rc]) ∧ Below W.heap.size W w') :
    Calls Try.prog 15 #[.string s, .slice (some ⟨b, 0, none⟩) n n] w fun e w' => e = .returned (.agg #[.int .i64 rt, .int .i64 rn, .string rs, .bool rb, .int .i64 rc]) ∧ Below w.heap.size w w' := by
  have mixed : Try.prog.follows .mixedOrders = true := by kernel_rfl
  obtain ⟨i0, hi, hz0, hz1, hz2⟩ := info_parts infoAg
  have HI : Hid _ := hi
  have HZ0 : Hid _ := hz0
  have HZ1 : Hid _ := hz1
  have HZ2 : Hid _ := hz2
  have hla := hb.lt
  have HB : Hid _ := hb
  have HL : Hid (l.length = n) := hn
  have HC : Hid _ := hC
  clear hi hz0 hz1 hz2 hb hn hC
  go_enter Try.func15, Try.ntmps15
  go_wp2
  obtain ⟨w0, hw0⟩ : ∃ w0, w.alloc (.cells #[.int .i64 0, .int .i64 0, .string ⟨#[]⟩, .bool false, .int .i64 0] 31) = w0 := ⟨_, rfl⟩
  have o0 : Own w0 w.heap.size #[.int .i64 0, .int .i64 0, .string ⟨#[]⟩, .bool false, .int .i64 0] := by rw [← hw0]; exact Own.new _ _ _
  have hB0 : Below w.heap.size w w0 := by rw [← hw0]; exact bal _ _
  have hs0 : w0.heap.size = w.heap.size + 1 := by rw [← hw0]; simp
  rw [hw0]
  clear hw0
  go_loopw [5, 6] (fun u v w' => ∃ i : Nat, v = .int .i64 i ∧ i ≤ n ∧ Row Ag.cells 11 37 w' w0.heap.size u ((l.take i).map argN) ∧ Below w0.heap.size w0 w') (fun _ v _ => n - (intOf v).toNat)
  case atStart => exact ⟨0, rfl, by omega, Row.nil _ _, Below.refl _ _⟩
  case round =>
    obtain ⟨i, rfl, hi, hr, hB3⟩ := hrel
    have z3 := hB3.size
    by_cases hlt : i < n
    · have hlt' : (i : Int) < n := by omega
      have hai : l[i]? = some (l[i]'(by rw [HL.out]; exact hlt)) := List.getElem?_eq_getElem _
      have HAi : Hid _ := hai
      revert HAi
      generalize (l[i]'(by rw [HL.out]; exact hlt)) = x
      intro HAi
      clear hai
      have x0 := (HB.out.keep (bup hB0 hB3)).at HAi.out
      have HR : Hid (Row Ag.cells 11 37 wr w0.heap.size u5 ((l.take i).map argN)) := hr
      clear hr
      go_wp2_with (first | (go_at_call 20; refine (number_any _ _).mono ?_; rintro e wn ⟨rfl, hbwn⟩; have hBwn : Below w0.heap.size w0 wn := bup (by with_reducible (repeat' first | assumption | exact Below.refl _ _ | refine Below.drew ?_ | refine bdrewN ?_ _ | refine Below.setCell ?_ (by first | exact Nat.le_refl _ | (simp; done) | (simp; omega) | omega) _ | refine Below.alloc ?_ (by first | exact Nat.le_refl _ | (simp; done) | (simp; omega) | omega) _)) hbwn; have zwn := hBwn.size; have HRn : Hid (Row Ag.cells 11 37 wn w0.heap.size u5 ((l.take i).map argN)) := Row.keep HR.out hbwn) | (go_at_call 13; refine (single_any _ _ _ _ _ _).mono ?_; rintro e ws ⟨rfl, hbws⟩; have hBws : Below w0.heap.size w0 ws := bup (by with_reducible (repeat' first | assumption | exact Below.refl _ _ | refine Below.drew ?_ | refine bdrewN ?_ _ | refine Below.setCell ?_ (by first | exact Nat.le_refl _ | (simp; done) | (simp; omega) | omega) _ | refine Below.alloc ?_ (by first | exact Nat.le_refl _ | (simp; done) | (simp; omega) | omega) _)) hbws; have zws := hBws.size; have HRs : Hid (Row Ag.cells 11 37 ws w0.heap.size u5 ((l.take i).map argN)) := Row.keep HRn.out hbws; have HO : Hid (ws.ownsRow w0.heap.size 37 11 u5 ((l.take i).map argN).length (flatC Ag.cells ((l.take i).map argN))) := HRs.out) | (at_builtin; refine wpList_append_own _ rfl _ _ 27 rfl w0.heap.size 37 i0 _ 11 112 Try.underlying27 HI.out HZ0.out HZ1.out HZ2.out rfl (by decide) _ _ _ rfl (HO.out.alloc _) ⟨ws.heap.size, 0, none⟩ 1 1 (argN x).cells.toList rfl rfl (news_pl _ _ _) (Ag.one _) (by rw [List.length_map, List.length_take]; unfold maxLen; omega) (by rw [List.length_map, List.length_take]; omega) (by rw [World.size_alloc]; omega) ?_; intro v' w1 hown' hgrow _))
      have R := app_rowv (t := argN x) (hBws.alloc (by omega) _) HRs.out hown' hgrow
      rw [take_map HAi.out] at R
      clear hown' hgrow
      go_wp2
      exact ⟨⟨i + 1, by go_num, by omega, R.1, R.2⟩, by simp [intOf]; omega⟩
    · have hlt' : ¬ (i : Int) < n := by omega
      have hil : l.take i = l := List.take_of_length_le (by rw [HL.out]; omega)
      rw [hil] at hr
      have hav := Row.view Ag.csize hr
      have o3 := o0.keep hB3
      have hBw : Below w.heap.size w wr := bup hB0 hB3
      have z4 := hBw.size
      clear hr o0
      go_wp2_with (go_at_call 14; refine (HC.out _ _ hav).mono ?_; rintro e wc ⟨rfl, hbwc⟩; have hBwc : Below w.heap.size w wc := bup (by with_reducible (repeat' first | assumption | exact Below.refl _ _ | refine Below.drew ?_ | refine bdrewN ?_ _ | refine Below.setCell ?_ (by first | exact Nat.le_refl _ | (simp; done) | (simp; omega) | omega) _ | refine Below.alloc ?_ (by first | exact Nat.le_refl _ | (simp; done) | (simp; omega) | omega) _)) hbwc; have zwc := hBwc.size; have o0wc : Own wc (w.heap.size) #[.int .i64 0, .int .i64 0, .string ⟨#[]⟩, .bool false, .int .i64 0] := Own.keep (by with_reducible (repeat' first | assumption | refine Own.drew ?_ | refine Own.drewN ?_ _ | (refine Own.at ?_; first | rfl | (simp; done)) | refine Own.past ?_ _)) hbwc; have c0 := o0wc.cell; have f0 := o0wc.fro; have l0 := o0wc.lt)
      exact bodyPost_ret (v := .agg #[.int .i64 rt, .int .i64 rn, .string rs, .bool rb, .int .i64 rc]) (by simp [results, Try.results15, go_sem, c0, f0, l0]) rfl ⟨rfl, by with_reducible (repeat' first | assumption | exact Below.refl _ _ | refine Below.drew ?_ | refine bdrewN ?_ _ | refine Below.setCell ?_ (by first | exact Nat.le_refl _ | (simp; done) | (simp; omega) | omega) _ | refine Below.alloc ?_ (by first | exact Nat.le_refl _ | (simp; done) | (simp; omega) | omega) _)⟩
end Go.Proofs.Ytfpbcokfianjaaa
