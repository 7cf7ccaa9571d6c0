/- texts.Call at SUBST; the ways of TextsSwaps that ask nothing. New memory alone is made. -/
import Derived.Test.YtdcfnfapdceenaaGreatDoorTP0
import Derived.Test.YtdcfnfapdceenaaGreatDoorTS
import Derived.Test.YtdcfnfapdceenaaGreatDoorTQ
namespace Go.Proofs.YtdcfnfapdceenaaGreatDoor.textsSwaps
open Go.Shelf Go.RowKit Go.ChangeShapes Go.WideShapes Go.ChangeAt
set_option linter.all false
theorem call_okb (s : ByteArray) (k : Nat) (hk : nmI s = k) (hk16 : k < 16) (w : World) (v : Value) (x : Int) (l : List Ag) (T : List ByteArray) (N : List Int) (hv : AV w v l) (h0 : 0 < l.length) (h16 : l.length ≤ 16) (hP : Pow w) (hc : hasB (loI k) (hiI k) (l.length : Int) = true) (hl : ∀ a ∈ l, okT a) (hT : (l.take (txN k)).map aT = T) (hN : (l.drop (txN k)).map aI = N) (hn : ∀ a ∈ l.drop (txN k), cdN a = 0) (hx : 0 ≤ x) (hx2 : x ≤ 1024) (rt rn : Int) (rs : ByteArray) (rb : Bool) (rc : Int)
    (hans : ∀ (W : World) (tp : Option Addr) (tc : Nat) (np : Option Addr) (nc : Nat), Below w.heap.size w W → SRow W (.slice tp T.length tc) T → IRow W (.slice np N.length nc) N → Calls Tryz.prog (fidI k) #[.agg #[.slice tp T.length tc, .slice np N.length nc, .int .i64 x]] W fun e w' => e = .returned (.agg #[.int .i64 rt, .int .i64 rn, .string rs, .bool rb, .int .i64 rc]) ∧ Below W.heap.size W w') :
    Calls Tryz.prog 9 #[.string s, v, .int .i64 x] w fun e w' => e = .returned (.agg #[.int .i64 rt, .int .i64 rn, .string rs, .bool rb, .int .i64 rc]) ∧ Below w.heap.size w w' := by
  subst hk hT hN
  exact c_ansb s w v x l hv (by omega) (fun a ha => (hl a ha).2.2.1) hk16 (by omega) (by omega) (by rw [hc, any_0 hl]; rfl) (firstF_0 hl) h0 h16 hP (fun a ha => (hl a ha).2.2.2) (firstN_0 hn) rt rn rs rb rc hans
theorem nm_subst : nmI ⟨#[83, 85, 66, 83, 84]⟩ = 9 := by kernel_rfl
theorem mx_of_shaped {W : World} (h : W.ShapedOpen Tryz.prog) : Mx W := Tryz.laysM219.s1_3 W h
theorem call_sub (s t u r : ByteArray) (hr : r = repl s t u) (w : World) (v : Value) (x : Int) (hv : AV w v [argV 2 0 s false 0, argV 2 0 t false 0, argV 2 0 u false 0]) (hP : Pow w) (hM : Mx w) (ht : 1 ≤ t.size) (htx : t.size ≤ maxLen) (hs : s.size ≤ 1024) (hu : u.size ≤ maxLen) (hKu : Lib.countB s t * u.size ≤ 1024 * 1048576) (hx : x ≤ 1024) (hfit : (r.size : Int) ≤ x) :
    Calls Tryz.prog 9 #[.string ⟨#[83, 85, 66, 83, 84]⟩, v, .int .i64 x] w fun e w' => e = .returned (.agg #[.int .i64 (2), .int .i64 (0), .string (r), .bool false, .int .i64 (0)]) ∧ Below w.heap.size w w' := by
  subst hr
  obtain ⟨e1, e2, e3⟩ := to_fit hfit
  have hz := repl_size s t u ht
  have hKt : Lib.countB s t * t.size ≤ s.size := Lib.countB_mul_le t ht s.size s (Nat.le_refl _)
  have hK : Lib.countB s t ≤ Lib.countB s t * t.size := Nat.le_mul_of_pos_right _ ht
  unfold maxLen at htx hu
  have hmul : ((Lib.countB s t : Nat) : Int) * ((u.size : Int) - (t.size : Int)) = ((Lib.countB s t * u.size : Nat) : Int) - ((Lib.countB s t * t.size : Nat) : Int) := by rw [Int.mul_sub, Int.natCast_mul, Int.natCast_mul]
  have key := call_okb ⟨#[83, 85, 66, 83, 84]⟩ 9 nm_subst (by decide) w v x [argT s, argT t, argT u] [s, t, u] [] hv (by simp) (by simp) hP (show hasB (loI 9) (hiI 9) 3 = true by decide) (by
    intro y hy
    simp at hy
    rcases hy with rfl | rfl | rfl
    · exact okT_T s
    · exact okT_T t
    · exact okT_T u) (by show [aT (argT s), aT (argT t), aT (argT u)] = [s, t, u]; rw [aT_T, aT_T, aT_T]) rfl (by
    intro y hy
    have hy' : y ∈ ([] : List Ag) := hy
    simp at hy') (by omega) hx (toT (repl s t u) x) 0 (toS (repl s t u) x) false (toC (repl s t u) x) (by
    intro W tp tc np nc hb h1 h2
    obtain ⟨_, g, rfl, hg, hc⟩ := SRow.lay h1 (by simp)
    refine repl_aux g tc np 0 nc x s t u W hg (hc 0 s rfl) (hc 1 t rfl) (hc 2 u rfl) (nonempty ht) (Lib.countB s t) (fun W' hb' => cnt_same s t W' (by omega) (hM.up (bup hb hb')) ht) (repl s t u) (fun W' hb' => rpl_any s t u W' (by omega) (hM.up (bup hb hb')) ht (by omega)) ((u.size : Int) - (t.size : Int)) (((Lib.countB s t * u.size : Nat) : Int) - ((Lib.countB s t * t.size : Nat) : Int)) ((s.size : Int) + (((Lib.countB s t * u.size : Nat) : Int) - ((Lib.countB s t * t.size : Nat) : Int))) ?_ ?_ ?_ ?_ ?_ ?_ (by omega) hx
    · rw [IntKind.wrap_i64]; omega
    · rw [hmul, IntKind.wrap_i64]; omega
    · rw [IntKind.wrap_i64]; omega
    · unfold wrap64; omega
    · rw [hmul]; unfold wrap64; omega
    · unfold wrap64; omega)
  rw [e1, e2, e3] at key
  exact key
set_option maxRecDepth 100000 in
theorem s_e (s t u : ByteArray) (w : World) (hte : t = ⟨#[]⟩) (hP : Pow w) : Calls Tryz.prog 8 #[.string s, .string t, .string u] w fun e w' => e = .returned (.bool true) ∧ Below w.heap.size w w' := by
  subst hte
  have bg : Bag w [] := Bag.nil w
  go_enter Tryz.func8, Tryz.ntmps8
  go_wp2_with (go_at_call 11; (with_reducible refine (known_law _ (hP.up (by first | assumption | exact Below.refl _ _))).mono ?_); rintro e w1 ⟨rfl, hb1⟩; have hB1 : Below w.heap.size w w1 := bup (by with_reducible (repeat' first | assumption | exact Below.refl _ _ | refine Below.drew ?_ | refine bdrewN ?_ _ | refine Below.setCell ?_ (by first | exact Nat.le_refl _ | (simp; done) | (simp; omega) | omega) _ | refine Below.alloc ?_ (by first | exact Nat.le_refl _ | (simp; done) | (simp; omega) | omega) _)) hb1; (first | replace bg := Bag.keep bg hb1 | replace bg := Bag.keep (Bag.new bg _ _) hb1 | replace bg := Bag.keep (textsParts.Bag.drew bg) hb1); have z1 := hB1.size)
  go_ret
  exact ⟨rfl, by with_reducible (repeat' first | assumption | exact Below.refl _ _ | refine Below.drew ?_ | refine bdrewN ?_ _ | refine Below.setCell ?_ (by first | exact Nat.le_refl _ | (simp; done) | (simp; omega) | omega) _ | refine Below.alloc ?_ (by first | exact Nat.le_refl _ | (simp; done) | (simp; omega) | omega) _)⟩
set_option maxRecDepth 100000 in
theorem s_1 (s t u : ByteArray) (w : World) (hte : (t.toList == []) = false) (h1 : (1024 : Int) < (s.size : Int)) (hP : Pow w) : Calls Tryz.prog 8 #[.string s, .string t, .string u] w fun e w' => e = .returned (.bool true) ∧ Below w.heap.size w w' := by
  have bg : Bag w [] := Bag.nil w
  go_enter Tryz.func8, Tryz.ntmps8
  go_wp2_with (go_at_call 11; (with_reducible refine (known_law _ (hP.up (by first | assumption | exact Below.refl _ _))).mono ?_); rintro e w1 ⟨rfl, hb1⟩; have hB1 : Below w.heap.size w w1 := bup (by with_reducible (repeat' first | assumption | exact Below.refl _ _ | refine Below.drew ?_ | refine bdrewN ?_ _ | refine Below.setCell ?_ (by first | exact Nat.le_refl _ | (simp; done) | (simp; omega) | omega) _ | refine Below.alloc ?_ (by first | exact Nat.le_refl _ | (simp; done) | (simp; omega) | omega) _)) hb1; (first | replace bg := Bag.keep bg hb1 | replace bg := Bag.keep (Bag.new bg _ _) hb1 | replace bg := Bag.keep (textsParts.Bag.drew bg) hb1); have z1 := hB1.size)
  go_ret
  exact ⟨rfl, by with_reducible (repeat' first | assumption | exact Below.refl _ _ | refine Below.drew ?_ | refine bdrewN ?_ _ | refine Below.setCell ?_ (by first | exact Nat.le_refl _ | (simp; done) | (simp; omega) | omega) _ | refine Below.alloc ?_ (by first | exact Nat.le_refl _ | (simp; done) | (simp; omega) | omega) _)⟩
set_option maxRecDepth 100000 in
theorem s_2 (s t u : ByteArray) (w : World) (hte : (t.toList == []) = false) (h1 : ¬ (1024 : Int) < (s.size : Int)) (h2 : (1024 : Int) < (u.size : Int)) (hP : Pow w) : Calls Tryz.prog 8 #[.string s, .string t, .string u] w fun e w' => e = .returned (.bool true) ∧ Below w.heap.size w w' := by
  have bg : Bag w [] := Bag.nil w
  go_enter Tryz.func8, Tryz.ntmps8
  go_wp2_with (go_at_call 11; (with_reducible refine (known_law _ (hP.up (by first | assumption | exact Below.refl _ _))).mono ?_); rintro e w1 ⟨rfl, hb1⟩; have hB1 : Below w.heap.size w w1 := bup (by with_reducible (repeat' first | assumption | exact Below.refl _ _ | refine Below.drew ?_ | refine bdrewN ?_ _ | refine Below.setCell ?_ (by first | exact Nat.le_refl _ | (simp; done) | (simp; omega) | omega) _ | refine Below.alloc ?_ (by first | exact Nat.le_refl _ | (simp; done) | (simp; omega) | omega) _)) hb1; (first | replace bg := Bag.keep bg hb1 | replace bg := Bag.keep (Bag.new bg _ _) hb1 | replace bg := Bag.keep (textsParts.Bag.drew bg) hb1); have z1 := hB1.size)
  go_ret
  exact ⟨rfl, by with_reducible (repeat' first | assumption | exact Below.refl _ _ | refine Below.drew ?_ | refine bdrewN ?_ _ | refine Below.setCell ?_ (by first | exact Nat.le_refl _ | (simp; done) | (simp; omega) | omega) _ | refine Below.alloc ?_ (by first | exact Nat.le_refl _ | (simp; done) | (simp; omega) | omega) _)⟩
set_option maxRecDepth 100000 in
theorem s_3 (s t u : ByteArray) (w : World) (hte : (t.toList == []) = false) (h1 : ¬ (1024 : Int) < (s.size : Int)) (h2 : ¬ (1024 : Int) < (u.size : Int)) (N : Nat) (hN : (s.size : Int) * ((u.size : Int) + 1) = (N : Int)) (h3 : (1024 : Int) ≤ (N : Int)) (hw1 : wrap64 ((u.size : Int) + 1) = (u.size : Int) + 1) (hw2 : wrap64 (N : Int) = (N : Int)) (hP : Pow w) : Calls Tryz.prog 8 #[.string s, .string t, .string u] w fun e w' => e = .returned (.bool true) ∧ Below w.heap.size w w' := by
  have bg : Bag w [] := Bag.nil w
  go_enter Tryz.func8, Tryz.ntmps8
  go_wp2_with (go_at_call 11; (with_reducible refine (known_law _ (hP.up (by first | assumption | exact Below.refl _ _))).mono ?_); rintro e w1 ⟨rfl, hb1⟩; have hB1 : Below w.heap.size w w1 := bup (by with_reducible (repeat' first | assumption | exact Below.refl _ _ | refine Below.drew ?_ | refine bdrewN ?_ _ | refine Below.setCell ?_ (by first | exact Nat.le_refl _ | (simp; done) | (simp; omega) | omega) _ | refine Below.alloc ?_ (by first | exact Nat.le_refl _ | (simp; done) | (simp; omega) | omega) _)) hb1; (first | replace bg := Bag.keep bg hb1 | replace bg := Bag.keep (Bag.new bg _ _) hb1 | replace bg := Bag.keep (textsParts.Bag.drew bg) hb1); have z1 := hB1.size)
  go_ret
  exact ⟨rfl, by with_reducible (repeat' first | assumption | exact Below.refl _ _ | refine Below.drew ?_ | refine bdrewN ?_ _ | refine Below.setCell ?_ (by first | exact Nat.le_refl _ | (simp; done) | (simp; omega) | omega) _ | refine Below.alloc ?_ (by first | exact Nat.le_refl _ | (simp; done) | (simp; omega) | omega) _)⟩
end Go.Proofs.YtdcfnfapdceenaaGreatDoor.textsSwaps
