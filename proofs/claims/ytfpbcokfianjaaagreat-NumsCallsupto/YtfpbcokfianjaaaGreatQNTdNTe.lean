/- The contracts of the law's own number, single and call: a row of numbers handed to nums.Call. New memory alone is made. The condition: at most 16 numbers. · The contract of the law's call wherever a function's answer of these numbers is known; the law's known: it returns true. New memory alone is made. -/
import Derived.Test.YtfpbcokfianjaaaGreatQNTcNR
import Derived.Test.YtfpbcokfianjaaaGreatQNT7NT8
import Derived.Sort.AtCall
namespace Go.Proofs.YtfpbcokfianjaaaGreat
open Go.RowKit
set_option linter.all false
/-- A single argument; one of a number. -/
def argV (t n : Int) (s : ByteArray) (b : Bool) (c : Int) : Ag := ⟨false, t, n, s, b, c, 0, 0, 0, 0, none, 0, 0⟩
def argN (x : Int) : Ag := argV 1 x ⟨#[]⟩ false 0
theorem Ag.csize (a : Ag) : a.cells.size = 11 := rfl
theorem Ag.one (a : Ag) : ∀ u ∈ a.cells.toList, u.oneCell' = true := by
  intro u hu
  simp [Ag.cells] at hu
  rcases hu with h | h | h | h | h | h | h | h | h | h | h <;> subst h <;> rfl
theorem number_any (x : Int) (w : World) : Calls Tryz.prog 22 #[.int .i64 x] w fun e w' => e = .returned (.agg #[.int .i64 (1), .int .i64 (x), .string ⟨#[]⟩, .bool false, .int .i64 (0)]) ∧ Below w.heap.size w w' := by
  go_enter Tryz.func22, Tryz.ntmps22
  go_wp2
  exact bodyPost_ret (v := (.agg #[.int .i64 (1), .int .i64 (x), .string ⟨#[]⟩, .bool false, .int .i64 (0)])) (by simp [results, Tryz.results22, go_sem]) rfl ⟨rfl, by with_reducible (repeat' first | assumption | exact Below.refl _ _ | refine Below.drew ?_ | refine bdrewN ?_ _ | refine Below.setCell ?_ (by first | exact Nat.le_refl _ | (simp; done) | (simp; omega) | omega) _ | refine Below.alloc ?_ (by first | exact Nat.le_refl _ | (simp; done) | (simp; omega) | omega) _)⟩
theorem single_any (t n : Int) (s : ByteArray) (b : Bool) (c : Int) (w : World) : Calls Tryz.prog 48 #[.agg #[.int .i64 t, .int .i64 n, .string s, .bool b, .int .i64 c]] w fun e w' => e = .returned (.agg #[.bool false, .int .i64 t, .int .i64 n, .string s, .bool b, .int .i64 c, .int .i64 0, .int .i64 0, .int .i64 0, .int .i64 0, .slice none 0 0]) ∧ Below w.heap.size w w' := by
  go_enter Tryz.func48, Tryz.ntmps48
  go_wp2
  exact bodyPost_ret (v := .agg #[.bool false, .int .i64 t, .int .i64 n, .string s, .bool b, .int .i64 c, .int .i64 0, .int .i64 0, .int .i64 0, .int .i64 0, .slice none 0 0]) (by simp [results, Tryz.results48, go_sem]) rfl ⟨rfl, by with_reducible (repeat' first | assumption | exact Below.refl _ _ | refine Below.drew ?_ | refine bdrewN ?_ _ | refine Below.setCell ?_ (by first | exact Nat.le_refl _ | (simp; done) | (simp; omega) | omega) _ | refine Below.alloc ?_ (by first | exact Nat.le_refl _ | (simp; done) | (simp; omega) | omega) _)⟩
theorem infoAg : (Tryz.prog.info? 54).map (fun i => (i.zero, i.size, i.bytes)) = some (some (.agg #[.bool false, .int .i64 0, .int .i64 0, .string ⟨#[]⟩, .bool false, .int .i64 0, .int .i64 0, .int .i64 0, .int .i64 0, .int .i64 0, .slice none 0 0]), 11, 112) := by kernel_rfl
theorem news_pl (W : World) (cs : Array Value) (T : TypeId) : ∀ (j : Nat) (u : Value), cs.toList[j]? = some u → (W.alloc (.cells cs T)).cell? ((⟨W.heap.size, 0, none⟩ : Addr).add j) = some u := fun j u h => by
  have h1 := (Own.new W cs T).cell j
  have e : ((⟨W.heap.size, 0, none⟩ : Addr).add j) = ⟨W.heap.size, j, none⟩ := by simp [Addr.add]; omega
  rw [e, h1]
  simpa using h
theorem app_rowv {α : Type} {c : α → Array Value} {sz : Nat} {e : TypeId} {w W W' w5 : World} {u v' : Value} {l : List α} {t : α} (hB : Below w.heap.size w W') (hr : Row c sz e W w.heap.size u l)
    (ho : w5.ownsRow w.heap.size e sz v' (l.length + 1) (flatC c l ++ (c t).toList)) (hg : W'.grownBy w5 u.ownBlock) : Row c sz e w5 w.heap.size v' (l ++ [t]) ∧ Below w.heap.size w w5 := by
  refine ⟨?_, Below.grown hB hg hB.size (fun k hk => (Row.lt hr k hk).1)⟩
  unfold Row
  rw [flatC_snoc, List.length_append]
  exact ho
theorem take_map {α β : Type} {f : α → β} {l : List α} {i : Nat} {x : α} (h : l[i]? = some x) : (l.take i).map f ++ [f x] = (l.take (i + 1)).map f := by
  rw [List.take_succ, h, Option.toList_some, List.map_append]; rfl
set_option maxRecDepth 100000 in
set_option maxHeartbeats 1000000 in
theorem call_any (s : ByteArray) (w : World) (b n : Nat) (l : List Int) (hb : NB w b l) (hn : l.length = n) (h16 : n ≤ 16) (rt rn : Int) (rs : ByteArray) (rb : Bool) (rc : Int)
    (hC : ∀ (W : World) (v : Value), AV W v (l.map argN) → Calls Tryz.prog 4 #[.string s, v, .int .i64 10] W fun e w' => e = .returned (.agg #[.int .i64 rt, .int .i64 rn, .string rs, .bool rb, .int .i64 rc]) ∧ Below W.heap.size W w') :
    Calls Tryz.prog 21 #[.string s, .slice (some ⟨b, 0, none⟩) n n] w fun e w' => e = .returned (.agg #[.int .i64 rt, .int .i64 rn, .string rs, .bool rb, .int .i64 rc]) ∧ Below w.heap.size w w' := by
  have mixed : Tryz.prog.follows .mixedOrders = true := by kernel_rfl
  obtain ⟨i0, hi, hz0, hz1, hz2⟩ := info_parts infoAg
  have HI : Hid _ := hi
  have HZ0 : Hid _ := hz0
  have HZ1 : Hid _ := hz1
  have HZ2 : Hid _ := hz2
  have hla := hb.lt
  have HB : Hid _ := hb
  have HL : Hid (l.length = n) := hn
  have HC : Hid _ := hC
  clear hi hz0 hz1 hz2 hb hn hC
  go_enter Tryz.func21, Tryz.ntmps21
  go_wp2
  obtain ⟨w0, hw0⟩ : ∃ w0, w.alloc (.cells #[.int .i64 0, .int .i64 0, .string ⟨#[]⟩, .bool false, .int .i64 0] 26) = w0 := ⟨_, rfl⟩
  have o0 : Own w0 w.heap.size #[.int .i64 0, .int .i64 0, .string ⟨#[]⟩, .bool false, .int .i64 0] := by rw [← hw0]; exact Own.new _ _ _
  have hB0 : Below w.heap.size w w0 := by rw [← hw0]; exact bal _ _
  have hs0 : w0.heap.size = w.heap.size + 1 := by rw [← hw0]; simp
  rw [hw0]
  clear hw0
  go_loopw [5, 6] (fun u v w' => ∃ i : Nat, v = .int .i64 i ∧ i ≤ n ∧ Row Ag.cells 11 54 w' w0.heap.size u ((l.take i).map argN) ∧ Below w0.heap.size w0 w') (fun _ v _ => n - (intOf v).toNat)
  case atStart => exact ⟨0, rfl, by omega, Row.nil _ _, Below.refl _ _⟩
  case round =>
    obtain ⟨i, rfl, hi, hr, hB3⟩ := hrel
    have z3 := hB3.size
    by_cases hlt : i < n
    · have hlt' : (i : Int) < n := by omega
      have hai : l[i]? = some (l[i]'(by rw [HL.out]; exact hlt)) := List.getElem?_eq_getElem _
      have HAi : Hid _ := hai
      revert HAi
      generalize (l[i]'(by rw [HL.out]; exact hlt)) = x
      intro HAi
      clear hai
      have x0 := (HB.out.keep (bup hB0 hB3)).at HAi.out
      have HR : Hid (Row Ag.cells 11 54 wr w0.heap.size u5 ((l.take i).map argN)) := hr
      clear hr
      go_wp2_with (first | (go_at_call 22; refine (number_any _ _).mono ?_; rintro e wn ⟨rfl, hbwn⟩; have hBwn : Below w0.heap.size w0 wn := bup (by with_reducible (repeat' first | assumption | exact Below.refl _ _ | refine Below.drew ?_ | refine bdrewN ?_ _ | refine Below.setCell ?_ (by first | exact Nat.le_refl _ | (simp; done) | (simp; omega) | omega) _ | refine Below.alloc ?_ (by first | exact Nat.le_refl _ | (simp; done) | (simp; omega) | omega) _)) hbwn; have zwn := hBwn.size; have HRn : Hid (Row Ag.cells 11 54 wn w0.heap.size u5 ((l.take i).map argN)) := Row.keep HR.out hbwn) | (go_at_call 48; refine (single_any _ _ _ _ _ _).mono ?_; rintro e ws ⟨rfl, hbws⟩; have hBws : Below w0.heap.size w0 ws := bup (by with_reducible (repeat' first | assumption | exact Below.refl _ _ | refine Below.drew ?_ | refine bdrewN ?_ _ | refine Below.setCell ?_ (by first | exact Nat.le_refl _ | (simp; done) | (simp; omega) | omega) _ | refine Below.alloc ?_ (by first | exact Nat.le_refl _ | (simp; done) | (simp; omega) | omega) _)) hbws; have zws := hBws.size; have HRs : Hid (Row Ag.cells 11 54 ws w0.heap.size u5 ((l.take i).map argN)) := Row.keep HRn.out hbws; have HO : Hid (ws.ownsRow w0.heap.size 54 11 u5 ((l.take i).map argN).length (flatC Ag.cells ((l.take i).map argN))) := HRs.out) | (at_builtin; refine wpList_append_own _ rfl _ _ 22 rfl w0.heap.size 54 i0 _ 11 112 Tryz.underlying22 HI.out HZ0.out HZ1.out HZ2.out rfl (by decide) _ _ _ rfl (HO.out.alloc _) ⟨ws.heap.size, 0, none⟩ 1 1 (argN x).cells.toList rfl rfl (news_pl _ _ _) (Ag.one _) (by rw [List.length_map, List.length_take]; unfold maxLen; omega) (by rw [List.length_map, List.length_take]; omega) (by rw [World.size_alloc]; omega) ?_; intro v' w1 hown' hgrow _))
      have R := app_rowv (t := argN x) (hBws.alloc (by omega) _) HRs.out hown' hgrow
      rw [take_map HAi.out] at R
      clear hown' hgrow
      go_wp2
      exact ⟨⟨i + 1, by go_num, by omega, R.1, R.2⟩, by simp [intOf]; omega⟩
    · have hlt' : ¬ (i : Int) < n := by omega
      have hil : l.take i = l := List.take_of_length_le (by rw [HL.out]; omega)
      rw [hil] at hr
      have hav := Row.view Ag.csize hr
      have o3 := o0.keep hB3
      have hBw : Below w.heap.size w wr := bup hB0 hB3
      have z4 := hBw.size
      clear hr o0
      go_wp2_with (go_at_call 4; refine (HC.out _ _ hav).mono ?_; rintro e wc ⟨rfl, hbwc⟩; have hBwc : Below w.heap.size w wc := bup (by with_reducible (repeat' first | assumption | exact Below.refl _ _ | refine Below.drew ?_ | refine bdrewN ?_ _ | refine Below.setCell ?_ (by first | exact Nat.le_refl _ | (simp; done) | (simp; omega) | omega) _ | refine Below.alloc ?_ (by first | exact Nat.le_refl _ | (simp; done) | (simp; omega) | omega) _)) hbwc; have zwc := hBwc.size; have o0wc : Own wc (w.heap.size) #[.int .i64 0, .int .i64 0, .string ⟨#[]⟩, .bool false, .int .i64 0] := Own.keep (by with_reducible (repeat' first | assumption | refine Own.drew ?_ | refine Own.drewN ?_ _ | (refine Own.at ?_; first | rfl | (simp; done)) | refine Own.past ?_ _)) hbwc; have c0 := o0wc.cell; have f0 := o0wc.fro; have l0 := o0wc.lt)
      exact bodyPost_ret (v := .agg #[.int .i64 rt, .int .i64 rn, .string rs, .bool rb, .int .i64 rc]) (by simp [results, Tryz.results21, go_sem, c0, f0, l0]) rfl ⟨rfl, by with_reducible (repeat' first | assumption | exact Below.refl _ _ | refine Below.drew ?_ | refine bdrewN ?_ _ | refine Below.setCell ?_ (by first | exact Nat.le_refl _ | (simp; done) | (simp; omega) | omega) _ | refine Below.alloc ?_ (by first | exact Nat.le_refl _ | (simp; done) | (simp; omega) | omega) _)⟩
end Go.Proofs.YtfpbcokfianjaaaGreat
namespace Go.Proofs.YtfpbcokfianjaaaGreat
open Go.RowKit
set_option linter.all false
theorem may_num {x : Int} (h : In x) : mayB 1 x ⟨#[]⟩ false 0 = true := by
  have := h.1
  simp [mayB]; omega
theorem nos_argN {x : Int} (h : In x) : nosB (argN x) = false := by simp [nosB, argN, argV, may_num h, rz]
theorem asC_argN {x : Int} (h : In x) : asC (argN x) = 0 := by simp [asC, asCode, argN, argV, may_num h]
theorem asN_argN {x : Int} (h : In x) : asN (argN x) = x := by simp [asN, asNum, argN, argV, may_num h]
theorem any_argN : ∀ {l : List Int}, Ins l → (l.map argN).any nosB = false
  | [], _ => rfl
  | x :: l, h => by
    rw [List.map_cons, List.any_cons, nos_argN (h x (List.mem_cons_self ..)), any_argN (fun y hy => h y (List.mem_cons_of_mem _ hy))]; rfl
theorem firstF_argN : ∀ (l : List Int), firstF (l.map argN) = none
  | [] => rfl
  | x :: l => by
    have := firstF_argN l
    unfold firstF at this ⊢
    rw [List.map_cons, List.find?_cons_of_neg (by simp [argN, argV]), this]
theorem firstC_argN : ∀ {l : List Int}, Ins l → firstC (l.map argN) = 0
  | [], _ => rfl
  | x :: l, h => by
    show (if asC (argN x) = 0 then firstC (l.map argN) else asC (argN x)) = 0
    rw [if_pos (asC_argN (h x (List.mem_cons_self ..))), firstC_argN (fun y hy => h y (List.mem_cons_of_mem _ hy))]
theorem map_argN : ∀ {l : List Int}, Ins l → (l.map argN).map asN = l
  | [], _ => rfl
  | x :: l, h => by
    rw [List.map_cons, List.map_cons, asN_argN (h x (List.mem_cons_self ..)), map_argN (fun y hy => h y (List.mem_cons_of_mem _ hy))]
theorem nums_argN {l : List Int} (h : Ins l) : Nums (l.map argN) := by
  intro a ha
  obtain ⟨x, hx, rfl⟩ := List.mem_map.1 ha
  exact (h x hx).i64
theorem calln (s : ByteArray) (k : Nat) (hk : nmI s = k) (hk16 : k < 16) (w : World) (b n : Nat) (l : List Int) (hb : NB w b l) (hn : l.length = n) (h0 : 0 < n) (h16 : n ≤ 16) (hN : Ins l) (hc : hasB (loI k) (hiI k) (n : Int) = true) (rt rn : Int) (rs : ByteArray) (rb : Bool) (rc : Int)
    (hans : ∀ (W : World) (b : Nat), NB W b l → Calls Tryz.prog (fidI k) #[.slice (some ⟨b, 0, none⟩) n n] W fun e w' => e = .returned (.agg #[.int .i64 rt, .int .i64 rn, .string rs, .bool rb, .int .i64 rc]) ∧ Below W.heap.size W w') :
    Calls Tryz.prog 21 #[.string s, .slice (some ⟨b, 0, none⟩) n n] w fun e w' => e = .returned (.agg #[.int .i64 rt, .int .i64 rn, .string rs, .bool rb, .int .i64 rc]) ∧ Below w.heap.size w w' := by
  subst hk
  have hlen : (l.map argN).length = n := by rw [List.length_map, hn]
  refine call_any s w b n l hb hn h16 rt rn rs rb rc fun W v hv => ?_
  exact c_ans s W v 10 (l.map argN) hv (by omega) (nums_argN hN) hk16 (by rw [hlen, hc, any_argN hN]; rfl) (firstF_argN l) (by omega) (by omega) (firstC_argN hN) rt rn rs rb rc (by rw [map_argN hN, hlen]; exact hans)
theorem nb_new1 (w : World) (x : Int) (T : TypeId) : NB (w.alloc (.cells #[.int .i64 x] T)) w.heap.size [x] := ⟨by simp, Own.new w _ T⟩
theorem nb_new2 (w : World) (x y : Int) (T : TypeId) : NB (w.alloc (.cells #[.int .i64 x, .int .i64 y] T)) w.heap.size [x, y] := ⟨by simp, Own.new w _ T⟩
theorem NB.drew {w : World} {b : Nat} {l : List Int} (h : NB w b l) : NB w.drew b l := h.keep (Below.refl _ _).drew
theorem ins1 {x : Int} (h : In x) : Ins [x] := by intro y hy; simp at hy; rw [hy]; exact h
theorem ins2 {x y : Int} (h : In x) (h2 : In y) : Ins [x, y] := by
  intro z hz; simp at hz; rcases hz with rfl | rfl
  · exact h
  · exact h2
theorem nm_abs : nmI ⟨#[65, 66, 83]⟩ = 0 := by kernel_rfl
theorem nm_gcd : nmI ⟨#[71, 67, 68]⟩ = 11 := by kernel_rfl
theorem k_abs (w : World) (b : Nat) (hb : NB w b [-15000]) : Calls Tryz.prog 21 #[.string ⟨#[65, 66, 83]⟩, .slice (some ⟨b, 0, none⟩) 1 1] w fun e w' => e = .returned (.agg #[.int .i64 (1), .int .i64 (15000), .string ⟨#[]⟩, .bool false, .int .i64 (0)]) ∧ Below w.heap.size w w' :=
  calln _ 0 nm_abs (by decide) w b 1 [-15000] hb rfl (by decide) (by decide) (ins1 ⟨by decide, by decide⟩) (by decide) 1 15000 ⟨#[]⟩ false 0 fun W b h => abs_any (-15000) b W h ⟨by decide, by decide⟩
theorem gcd_lit : gcdL [120000, 180000] = 60000 := by decide
theorem brk_lit : [(120000 : Int), 180000].any brk = false := by decide
theorem k_gcd (w : World) (b : Nat) (hb : NB w b [120000, 180000]) : Calls Tryz.prog 21 #[.string ⟨#[71, 67, 68]⟩, .slice (some ⟨b, 0, none⟩) 2 2] w fun e w' => e = .returned (.agg #[.int .i64 (1), .int .i64 (60000), .string ⟨#[]⟩, .bool false, .int .i64 (0)]) ∧ Below w.heap.size w w' :=
  calln _ 11 nm_gcd (by decide) w b 2 [120000, 180000] hb rfl (by decide) (by decide) (ins2 ⟨by decide, by decide⟩ ⟨by decide, by decide⟩) (by decide) 1 60000 ⟨#[]⟩ false 0 fun W b h => by
    have q := gcd_ok W b 2 [120000, 180000] h rfl (ins2 ⟨by decide, by decide⟩ ⟨by decide, by decide⟩) (by decide) brk_lit
    rw [gcd_lit] at q
    exact q
theorem nm_lcm : decide (nmI ⟨#[76, 67, 77]⟩ < 16) = true := by kernel_rfl
theorem nm_sum : decide (nmI ⟨#[83, 85, 77]⟩ < 16) = false := by kernel_rfl
theorem s_abs : sameB (1) (15000) ⟨#[]⟩ false (0) (1) (15000) ⟨#[]⟩ false (0) = true := by simp [sameB]
theorem s_gcd : sameB (1) (60000) ⟨#[]⟩ false (0) (1) (60000) ⟨#[]⟩ false (0) = true := by simp [sameB]
set_option maxRecDepth 100000 in
set_option maxHeartbeats 1000000 in
theorem known_law (w : World) : Calls Tryz.prog 6 #[] w fun e w' => e = .returned (.bool true) ∧ Below w.heap.size w w' := by
  have q1 := s_abs
  have q2 := s_gcd
  have e1 := eqv (1) (15000) ⟨#[]⟩ false (0) (1) (15000) ⟨#[]⟩ false (0)
  have e2 := eqv (1) (60000) ⟨#[]⟩ false (0) (1) (60000) ⟨#[]⟩ false (0)
  rw [q1] at e1
  rw [q2] at e2
  clear q1 q2
  go_enter Tryz.func6, Tryz.ntmps6
  go_wp2_with (first | (go_at_call_has 21 (Value.string ⟨#[65, 66, 83]⟩); refine (k_abs _ _ (nb_new1 _ _ _)).mono ?_; rintro e wa ⟨rfl, hbwa⟩; have hBwa : Below w.heap.size w wa := bup (by with_reducible (repeat' first | assumption | exact Below.refl _ _ | refine Below.drew ?_ | refine bdrewN ?_ _ | refine Below.setCell ?_ (by first | exact Nat.le_refl _ | (simp; done) | (simp; omega) | omega) _ | refine Below.alloc ?_ (by first | exact Nat.le_refl _ | (simp; done) | (simp; omega) | omega) _)) hbwa; have zwa := hBwa.size) | (go_at_call_has 21 (Value.string ⟨#[71, 67, 68]⟩); refine (k_gcd _ _ (nb_new2 _ _ _ _)).mono ?_; rintro e wc ⟨rfl, hbwc⟩; have hBwc : Below w.heap.size w wc := bup (by with_reducible (repeat' first | assumption | exact Below.refl _ _ | refine Below.drew ?_ | refine bdrewN ?_ _ | refine Below.setCell ?_ (by first | exact Nat.le_refl _ | (simp; done) | (simp; omega) | omega) _ | refine Below.alloc ?_ (by first | exact Nat.le_refl _ | (simp; done) | (simp; omega) | omega) _)) hbwc; have zwc := hBwc.size) | (go_at_call 22; refine (number_any _ _).mono ?_; rintro e wb ⟨rfl, hbwb⟩; have hBwb : Below w.heap.size w wb := bup (by with_reducible (repeat' first | assumption | exact Below.refl _ _ | refine Below.drew ?_ | refine bdrewN ?_ _ | refine Below.setCell ?_ (by first | exact Nat.le_refl _ | (simp; done) | (simp; omega) | omega) _ | refine Below.alloc ?_ (by first | exact Nat.le_refl _ | (simp; done) | (simp; omega) | omega) _)) hbwb; have zwb := hBwb.size) | (go_at_call_has 23 (Value.string ⟨#[76, 67, 77]⟩); refine (known_any _ _).mono ?_; rintro e w5 ⟨rfl, rfl⟩; rw [nm_lcm]) | (go_at_call_has 23 (Value.string ⟨#[83, 85, 77]⟩); refine (known_any _ _).mono ?_; rintro e w5 ⟨rfl, rfl⟩; rw [nm_sum]))
  go_ret
  exact ⟨rfl, by with_reducible (repeat' first | assumption | exact Below.refl _ _ | refine Below.drew ?_ | refine bdrewN ?_ _ | refine Below.setCell ?_ (by first | exact Nat.le_refl _ | (simp; done) | (simp; omega) | omega) _ | refine Below.alloc ?_ (by first | exact Nat.le_refl _ | (simp; done) | (simp; omega) | omega) _)⟩
end Go.Proofs.YtfpbcokfianjaaaGreat
