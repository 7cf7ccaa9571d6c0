/- The contract of the law's call wherever a function's answer of these numbers is known; the law's known: it returns true. New memory alone is made. -/
import Derived.Test.YtfpbcokfianjaaaNTd
import Derived.Test.YtfpbcokfianjaaaNT8
import Derived.Sort.AtCall
namespace Go.Proofs.Ytfpbcokfianjaaa
open Go.RowKit
set_option linter.all false
theorem may_num {x : Int} (h : In x) : mayB 1 x ⟨#[]⟩ false 0 = true := by
  have := h.1
  simp [mayB]; omega
theorem nos_argN {x : Int} (h : In x) : nosB (argN x) = false := by simp [nosB, argN, argV, may_num h, rz]
theorem asC_argN {x : Int} (h : In x) : asC (argN x) = 0 := by simp [asC, asCode, argN, argV, may_num h]
theorem asN_argN {x : Int} (h : In x) : asN (argN x) = x := by simp [asN, asNum, argN, argV, may_num h]
theorem any_argN : ∀ {l : List Int}, Ins l → (l.map argN).any nosB = false
  | [], _ => rfl
  | x :: l, h => by
    rw [List.map_cons, List.any_cons, nos_argN (h x (List.mem_cons_self ..)), any_argN (fun y hy => h y (List.mem_cons_of_mem _ hy))]; rfl
theorem firstF_argN : ∀ (l : List Int), firstF (l.map argN) = none
  | [] => rfl
  | x :: l => by
    have := firstF_argN l
    unfold firstF at this ⊢
    rw [List.map_cons, List.find?_cons_of_neg (by simp [argN, argV]), this]
theorem firstC_argN : ∀ {l : List Int}, Ins l → firstC (l.map argN) = 0
  | [], _ => rfl
  | x :: l, h => by
    show (if asC (argN x) = 0 then firstC (l.map argN) else asC (argN x)) = 0
    rw [if_pos (asC_argN (h x (List.mem_cons_self ..))), firstC_argN (fun y hy => h y (List.mem_cons_of_mem _ hy))]
theorem map_argN : ∀ {l : List Int}, Ins l → (l.map argN).map asN = l
  | [], _ => rfl
  | x :: l, h => by
    rw [List.map_cons, List.map_cons, asN_argN (h x (List.mem_cons_self ..)), map_argN (fun y hy => h y (List.mem_cons_of_mem _ hy))]
theorem nums_argN {l : List Int} (h : Ins l) : Nums (l.map argN) := by
  intro a ha
  obtain ⟨x, hx, rfl⟩ := List.mem_map.1 ha
  exact (h x hx).i64
theorem calln (s : ByteArray) (k : Nat) (hk : nmI s = k) (hk16 : k < 16) (w : World) (b n : Nat) (l : List Int) (hb : NB w b l) (hn : l.length = n) (h0 : 0 < n) (h16 : n ≤ 16) (hN : Ins l) (hc : hasB (loI k) (hiI k) (n : Int) = true) (rt rn : Int) (rs : ByteArray) (rb : Bool) (rc : Int)
    (hans : ∀ (W : World) (b : Nat), NB W b l → Calls Try.prog (fidI k) #[.slice (some ⟨b, 0, none⟩) n n] W fun e w' => e = .returned (.agg #[.int .i64 rt, .int .i64 rn, .string rs, .bool rb, .int .i64 rc]) ∧ Below W.heap.size W w') :
    Calls Try.prog 15 #[.string s, .slice (some ⟨b, 0, none⟩) n n] w fun e w' => e = .returned (.agg #[.int .i64 rt, .int .i64 rn, .string rs, .bool rb, .int .i64 rc]) ∧ Below w.heap.size w w' := by
  subst hk
  have hlen : (l.map argN).length = n := by rw [List.length_map, hn]
  refine call_any s w b n l hb hn h16 rt rn rs rb rc fun W v hv => ?_
  exact c_ans s W v 10 (l.map argN) hv (by omega) (nums_argN hN) hk16 (by rw [hlen, hc, any_argN hN]; rfl) (firstF_argN l) (by omega) (by omega) (firstC_argN hN) rt rn rs rb rc (by rw [map_argN hN, hlen]; exact hans)
theorem nb_new1 (w : World) (x : Int) (T : TypeId) : NB (w.alloc (.cells #[.int .i64 x] T)) w.heap.size [x] := ⟨by simp, Own.new w _ T⟩
theorem nb_new2 (w : World) (x y : Int) (T : TypeId) : NB (w.alloc (.cells #[.int .i64 x, .int .i64 y] T)) w.heap.size [x, y] := ⟨by simp, Own.new w _ T⟩
theorem NB.drew {w : World} {b : Nat} {l : List Int} (h : NB w b l) : NB w.drew b l := h.keep (Below.refl _ _).drew
theorem nb_at1 {w : World} {n : Nat} (h : n = w.heap.size) (x : Int) (T : TypeId) : NB (w.alloc (.cells #[.int .i64 x] T)) n [x] := by subst h; exact nb_new1 w x T
theorem nb_at2 {w : World} {n : Nat} (h : n = w.heap.size) (x y : Int) (T : TypeId) : NB (w.alloc (.cells #[.int .i64 x, .int .i64 y] T)) n [x, y] := by subst h; exact nb_new2 w x y T
theorem nb_new3 (w : World) (x y z : Int) (T : TypeId) : NB (w.alloc (.cells #[.int .i64 x, .int .i64 y, .int .i64 z] T)) w.heap.size [x, y, z] := ⟨by simp, Own.new w _ T⟩
theorem nb_at3 {w : World} {n : Nat} (h : n = w.heap.size) (x y z : Int) (T : TypeId) : NB (w.alloc (.cells #[.int .i64 x, .int .i64 y, .int .i64 z] T)) n [x, y, z] := by subst h; exact nb_new3 w x y z T
theorem ins1 {x : Int} (h : In x) : Ins [x] := by intro y hy; simp at hy; rw [hy]; exact h
theorem ins2 {x y : Int} (h : In x) (h2 : In y) : Ins [x, y] := by
  intro z hz; simp at hz; rcases hz with rfl | rfl
  · exact h
  · exact h2
theorem ins3 {x y z : Int} (h : In x) (h2 : In y) (h3 : In z) : Ins [x, y, z] := by
  intro u hu; simp at hu; rcases hu with rfl | rfl | rfl
  · exact h
  · exact h2
  · exact h3
theorem nm_abs : nmI ⟨#[65, 66, 83]⟩ = 0 := by kernel_rfl
theorem nm_gcd : nmI ⟨#[71, 67, 68]⟩ = 11 := by kernel_rfl
theorem k_abs (w : World) (b : Nat) (hb : NB w b [-15000]) : Calls Try.prog 15 #[.string ⟨#[65, 66, 83]⟩, .slice (some ⟨b, 0, none⟩) 1 1] w fun e w' => e = .returned (.agg #[.int .i64 (1), .int .i64 (15000), .string ⟨#[]⟩, .bool false, .int .i64 (0)]) ∧ Below w.heap.size w w' :=
  calln _ 0 nm_abs (by decide) w b 1 [-15000] hb rfl (by decide) (by decide) (ins1 ⟨by decide, by decide⟩) (by decide) 1 15000 ⟨#[]⟩ false 0 fun W b h => abs_any (-15000) b W h ⟨by decide, by decide⟩
theorem gcd_lit : gcdL [120000, 180000] = 60000 := by decide
theorem brk_lit : [(120000 : Int), 180000].any brk = false := by decide
theorem k_gcd (w : World) (b : Nat) (hb : NB w b [120000, 180000]) : Calls Try.prog 15 #[.string ⟨#[71, 67, 68]⟩, .slice (some ⟨b, 0, none⟩) 2 2] w fun e w' => e = .returned (.agg #[.int .i64 (1), .int .i64 (60000), .string ⟨#[]⟩, .bool false, .int .i64 (0)]) ∧ Below w.heap.size w w' :=
  calln _ 11 nm_gcd (by decide) w b 2 [120000, 180000] hb rfl (by decide) (by decide) (ins2 ⟨by decide, by decide⟩ ⟨by decide, by decide⟩) (by decide) 1 60000 ⟨#[]⟩ false 0 fun W b h => by
    have q := gcd_ok W b 2 [120000, 180000] h rfl (ins2 ⟨by decide, by decide⟩ ⟨by decide, by decide⟩) (by decide) brk_lit
    rw [gcd_lit] at q
    exact q
theorem nm_lcm : decide (nmI ⟨#[76, 67, 77]⟩ < 16) = true := by kernel_rfl
theorem nm_sum : decide (nmI ⟨#[83, 85, 77]⟩ < 16) = false := by kernel_rfl
theorem s_abs : sameB (1) (15000) ⟨#[]⟩ false (0) (1) (15000) ⟨#[]⟩ false (0) = true := by simp [sameB]
theorem s_gcd : sameB (1) (60000) ⟨#[]⟩ false (0) (1) (60000) ⟨#[]⟩ false (0) = true := by simp [sameB]
set_option maxRecDepth 100000 in
set_option maxHeartbeats 1000000 in
theorem known_law (w : World) : Calls Try.prog 11 #[] w fun e w' => e = .returned (.bool true) ∧ Below w.heap.size w w' := by
  have q1 := s_abs
  have q2 := s_gcd
  have e1 := eqv (1) (15000) ⟨#[]⟩ false (0) (1) (15000) ⟨#[]⟩ false (0)
  have e2 := eqv (1) (60000) ⟨#[]⟩ false (0) (1) (60000) ⟨#[]⟩ false (0)
  rw [q1] at e1
  rw [q2] at e2
  clear q1 q2
  go_enter Try.func11, Try.ntmps11
  go_wp2_with (first | (go_at_call_has 15 (Value.string ⟨#[65, 66, 83]⟩); refine (k_abs _ _ (nb_new1 _ _ _)).mono ?_; rintro e wa ⟨rfl, hbwa⟩; have hBwa : Below w.heap.size w wa := bup (by with_reducible (repeat' first | assumption | exact Below.refl _ _ | refine Below.drew ?_ | refine bdrewN ?_ _ | refine Below.setCell ?_ (by first | exact Nat.le_refl _ | (simp; done) | (simp; omega) | omega) _ | refine Below.alloc ?_ (by first | exact Nat.le_refl _ | (simp; done) | (simp; omega) | omega) _)) hbwa; have zwa := hBwa.size) | (go_at_call_has 15 (Value.string ⟨#[71, 67, 68]⟩); refine (k_gcd _ _ (nb_new2 _ _ _ _)).mono ?_; rintro e wc ⟨rfl, hbwc⟩; have hBwc : Below w.heap.size w wc := bup (by with_reducible (repeat' first | assumption | exact Below.refl _ _ | refine Below.drew ?_ | refine bdrewN ?_ _ | refine Below.setCell ?_ (by first | exact Nat.le_refl _ | (simp; done) | (simp; omega) | omega) _ | refine Below.alloc ?_ (by first | exact Nat.le_refl _ | (simp; done) | (simp; omega) | omega) _)) hbwc; have zwc := hBwc.size) | (go_at_call 20; refine (number_any _ _).mono ?_; rintro e wb ⟨rfl, hbwb⟩; have hBwb : Below w.heap.size w wb := bup (by with_reducible (repeat' first | assumption | exact Below.refl _ _ | refine Below.drew ?_ | refine bdrewN ?_ _ | refine Below.setCell ?_ (by first | exact Nat.le_refl _ | (simp; done) | (simp; omega) | omega) _ | refine Below.alloc ?_ (by first | exact Nat.le_refl _ | (simp; done) | (simp; omega) | omega) _)) hbwb; have zwb := hBwb.size) | (go_at_call_has 7 (Value.string ⟨#[76, 67, 77]⟩); refine (known_any _ _).mono ?_; rintro e w5 ⟨rfl, rfl⟩; rw [nm_lcm]) | (go_at_call_has 7 (Value.string ⟨#[83, 85, 77]⟩); refine (known_any _ _).mono ?_; rintro e w5 ⟨rfl, rfl⟩; rw [nm_sum]))
  go_ret
  exact ⟨rfl, by with_reducible (repeat' first | assumption | exact Below.refl _ _ | refine Below.drew ?_ | refine bdrewN ?_ _ | refine Below.setCell ?_ (by first | exact Nat.le_refl _ | (simp; done) | (simp; omega) | omega) _ | refine Below.alloc ?_ (by first | exact Nat.le_refl _ | (simp; done) | (simp; omega) | omega) _)⟩
end Go.Proofs.Ytfpbcokfianjaaa
