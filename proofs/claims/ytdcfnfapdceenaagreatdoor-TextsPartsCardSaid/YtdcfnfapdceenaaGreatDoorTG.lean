/- The contracts of the law's own txt, whole, list, is and fault; of texts.Call at arguments that may be. New memory alone is made. -/
import Derived.Test.YtdcfnfapdceenaaGreatDoorTE
namespace Go.Proofs.YtdcfnfapdceenaaGreatDoor
open Go.RowKit
set_option linter.all false
/-- A single argument; one of a text, of a whole number. -/
def argV (t n : Int) (s : ByteArray) (b : Bool) (c : Int) : Ag := ⟨false, t, n, s, b, c, 0, 0, 0, 0, none, 0, 0⟩
def argT (s : ByteArray) : Ag := argV 2 0 s false 0
def argW (n : Int) : Ag := argV 1 (n * 10000) ⟨#[]⟩ false 0
theorem Ag.csize (a : Ag) : a.cells.size = 11 := rfl
def Mod (n : Int) : Prop := -900000000000000 ≤ n ∧ n ≤ 900000000000000
theorem may_T (s : ByteArray) : mayB 2 0 s false 0 = true := by simp [mayB]
theorem may_W {n : Int} (h : Mod n) : mayB 1 (n * 10000) ⟨#[]⟩ false 0 = true := by
  obtain ⟨h1, h2⟩ := h
  simp [mayB]; omega
/-- An argument that may be, and can be taken for a text. -/
def okT (a : Ag) : Prop := nosB a = false ∧ ¬ a.t = 4 ∧ I64 a.n ∧ asCodeT a.t a.n a.s a.b a.c = 0
theorem okT_T (s : ByteArray) : okT (argT s) := ⟨by simp [nosB, argT, argV, may_T, rz], by simp [argT, argV], ⟨by simp [argT, argV], by simp [argT, argV]⟩, by simp [asCodeT, argT, argV, may_T]⟩
theorem okT_W {n : Int} (h : Mod n) : okT (argW n) := by
  have hm := may_W h
  obtain ⟨h1, h2⟩ := h
  exact ⟨by simp [nosB, argW, argV, hm, rz], by simp [argW, argV], ⟨by simp [argW, argV]; omega, by simp [argW, argV]; omega⟩, by simp [asCodeT, argW, argV, hm]⟩
theorem aT_T (s : ByteArray) : aT (argT s) = s := by simp [aT, asTxt, argT, argV, may_T]
theorem aN_W {n : Int} (h : Mod n) : aN (argW n) = n * 10000 := by simp [aN, asNum, argW, argV, may_W h]
theorem aI_W {n : Int} (h : Mod n) : aI (argW n) = n := by
  unfold aI; rw [aN_W h]; exact Int.mul_tdiv_cancel _ (by decide)
theorem cd_W {n : Int} (h : Mod n) : cdN (argW n) = 0 := by
  unfold cdN
  rw [aN_W h, show asCode (argW n).t (argW n).n (argW n).s (argW n).b (argW n).c = 0 by simp [asCode, argW, argV, may_W h], if_pos rfl, if_pos]
  obtain ⟨h1, h2⟩ := h
  unfold wholeOk
  rw [mayOk_t (by omega), Int.mul_tmod_left]; rfl
theorem firstN_0 : ∀ {l : List Ag}, (∀ a ∈ l, cdN a = 0) → firstN l = 0
  | [], _ => rfl
  | a :: l, h => by
    show (if cdN a = 0 then firstN l else cdN a) = 0
    rw [if_pos (h a (List.mem_cons_self ..)), firstN_0 (fun x hx => h x (List.mem_cons_of_mem _ hx))]
theorem firstF_0 : ∀ {l : List Ag}, (∀ a ∈ l, okT a) → firstF l = none
  | [], _ => rfl
  | x :: l, h => by
    have := firstF_0 (fun y hy => h y (List.mem_cons_of_mem _ hy))
    unfold firstF at this ⊢
    rw [List.find?_cons_of_neg (by have q := (h x (List.mem_cons_self ..)).2.1; simp at q ⊢; intro _; exact q), this]
theorem any_0 : ∀ {l : List Ag}, (∀ a ∈ l, okT a) → l.any nosB = false
  | [], _ => rfl
  | x :: l, h => by
    rw [List.any_cons, (h x (List.mem_cons_self ..)).1, any_0 (fun y hy => h y (List.mem_cons_of_mem _ hy))]; rfl
theorem call_ok (s : ByteArray) (k : Nat) (hk : nmI s = k) (hk16 : k < 16) (w : World) (v : Value) (x : Int) (l : List Ag) (T : List ByteArray) (N : List Int) (hv : AV w v l) (h0 : 0 < l.length) (h16 : l.length ≤ 16) (hP : Pow w) (hc : hasB (loI k) (hiI k) (l.length : Int) = true) (hl : ∀ a ∈ l, okT a) (hT : (l.take (txN k)).map aT = T) (hN : (l.drop (txN k)).map aI = N) (hn : ∀ a ∈ l.drop (txN k), cdN a = 0) (hx : 0 ≤ x) (hx2 : x ≤ 1024) (rt rn : Int) (rs : ByteArray) (rb : Bool) (rc : Int)
    (hans : ∀ (W : World) (tp : Option Addr) (tc : Nat) (np : Option Addr) (nc : Nat), SRow W (.slice tp T.length tc) T → IRow W (.slice np N.length nc) N → Calls Tryz.prog (fidI k) #[.agg #[.slice tp T.length tc, .slice np N.length nc, .int .i64 x]] W fun e w' => e = .returned (.agg #[.int .i64 rt, .int .i64 rn, .string rs, .bool rb, .int .i64 rc]) ∧ Below W.heap.size W w') :
    Calls Tryz.prog 9 #[.string s, v, .int .i64 x] w fun e w' => e = .returned (.agg #[.int .i64 rt, .int .i64 rn, .string rs, .bool rb, .int .i64 rc]) ∧ Below w.heap.size w w' := by
  subst hk hT hN
  exact c_ans s w v x l hv (by omega) (fun a ha => (hl a ha).2.2.1) hk16 (by omega) (by omega) (by rw [hc, any_0 hl]; rfl) (firstF_0 hl) h0 h16 hP (fun a ha => (hl a ha).2.2.2) (firstN_0 hn) rt rn rs rb rc hans
theorem ltxt (s : ByteArray) (w : World) : Calls Tryz.prog 17 #[.string s] w fun e w' => e = .returned (.agg #[.bool false, .int .i64 (2), .int .i64 (0), .string (s), .bool false, .int .i64 0, .int .i64 0, .int .i64 0, .int .i64 0, .int .i64 0, .slice none 0 0]) ∧ Below w.heap.size w w' := by
  go_enter Tryz.func17, Tryz.ntmps17
  go_wp2
  exact bodyPost_ret (v := (.agg #[.bool false, .int .i64 (2), .int .i64 (0), .string (s), .bool false, .int .i64 0, .int .i64 0, .int .i64 0, .int .i64 0, .int .i64 0, .slice none 0 0])) (by simp [results, Tryz.results17, go_sem]) rfl ⟨rfl, by with_reducible (repeat' first | assumption | exact Below.refl _ _ | refine Below.drew ?_ | refine bdrewN ?_ _ | refine Below.setCell ?_ (by first | exact Nat.le_refl _ | (simp; done) | (simp; omega) | omega) _ | refine Below.alloc ?_ (by first | exact Nat.le_refl _ | (simp; done) | (simp; omega) | omega) _)⟩
theorem lwhole (n : Int) (w : World) (h : Mod n) : Calls Tryz.prog 18 #[.int .i64 n] w fun e w' => e = .returned (.agg #[.bool false, .int .i64 (1), .int .i64 (n * 10000), .string (⟨#[]⟩), .bool false, .int .i64 0, .int .i64 0, .int .i64 0, .int .i64 0, .int .i64 0, .slice none 0 0]) ∧ Below w.heap.size w w' := by
  have hw : wrap64 (n * 10000) = n * 10000 := by obtain ⟨h1, h2⟩ := h; unfold wrap64; omega
  have hw2 : IntKind.i64.wrap (n * 10000) = n * 10000 := by obtain ⟨h1, h2⟩ := h; rw [IntKind.wrap_i64]; omega
  go_enter Tryz.func18, Tryz.ntmps18
  go_wp2
  exact bodyPost_ret (v := (.agg #[.bool false, .int .i64 (1), .int .i64 (n * 10000), .string (⟨#[]⟩), .bool false, .int .i64 0, .int .i64 0, .int .i64 0, .int .i64 0, .int .i64 0, .slice none 0 0])) (by simp [results, Tryz.results18, go_sem]) rfl ⟨rfl, by with_reducible (repeat' first | assumption | exact Below.refl _ _ | refine Below.drew ?_ | refine bdrewN ?_ _ | refine Below.setCell ?_ (by first | exact Nat.le_refl _ | (simp; done) | (simp; omega) | omega) _ | refine Below.alloc ?_ (by first | exact Nat.le_refl _ | (simp; done) | (simp; omega) | omega) _)⟩
theorem llist_1 (t0 n0 : Int) (s0 : ByteArray) (t1 n1 : Int) (s1 : ByteArray) (t2 n2 : Int) (s2 : ByteArray) (w : World) : Calls Tryz.prog 16 #[(.agg #[.bool false, .int .i64 t0, .int .i64 n0, .string s0, .bool false, .int .i64 0, .int .i64 0, .int .i64 0, .int .i64 0, .int .i64 0, .slice none 0 0]), (.agg #[.bool false, .int .i64 t1, .int .i64 n1, .string s1, .bool false, .int .i64 0, .int .i64 0, .int .i64 0, .int .i64 0, .int .i64 0, .slice none 0 0]), (.agg #[.bool false, .int .i64 t2, .int .i64 n2, .string s2, .bool false, .int .i64 0, .int .i64 0, .int .i64 0, .int .i64 0, .int .i64 0, .slice none 0 0]), .int .i64 1] w fun e w' => (∃ p c, e = .returned (.slice p 1 c) ∧ AV w' (.slice p 1 c) [argV t0 n0 s0 false 0]) ∧ Below w.heap.size w w' := by
  go_enter Tryz.func16, Tryz.ntmps16
  go_wp2
  go_ret
  refine ⟨⟨some ⟨w.heap.size + 1 + 1 + 1, 0, none⟩, 3, rfl, some ⟨w.heap.size + 1 + 1 + 1, 0, none⟩, 3, rfl, by simp, fun _ => ⟨w.heap.size + 1 + 1 + 1, 0, rfl, by simp, fun i y hi j hj => ?_⟩⟩, by with_reducible (repeat' first | assumption | exact Below.refl _ _ | refine Below.drew ?_ | refine bdrewN ?_ _ | refine Below.setCell ?_ (by first | exact Nat.le_refl _ | (simp; done) | (simp; omega) | omega) _ | refine Below.alloc ?_ (by first | exact Nat.le_refl _ | (simp; done) | (simp; omega) | omega) _)⟩
  have ho : Own (World.alloc (World.alloc (World.alloc (World.alloc w (.cells #[.bool false, .int .i64 t0, .int .i64 n0, .string s0, .bool false, .int .i64 0, .int .i64 0, .int .i64 0, .int .i64 0, .int .i64 0, .slice none 0 0] 38)) (.cells #[.bool false, .int .i64 t1, .int .i64 n1, .string s1, .bool false, .int .i64 0, .int .i64 0, .int .i64 0, .int .i64 0, .int .i64 0, .slice none 0 0] 38)) (.cells #[.bool false, .int .i64 t2, .int .i64 n2, .string s2, .bool false, .int .i64 0, .int .i64 0, .int .i64 0, .int .i64 0, .int .i64 0, .slice none 0 0] 38)) (.cells #[.bool false, .int .i64 t0, .int .i64 n0, .string s0, .bool false, .int .i64 0, .int .i64 0, .int .i64 0, .int .i64 0, .int .i64 0, .slice none 0 0, .bool false, .int .i64 t1, .int .i64 n1, .string s1, .bool false, .int .i64 0, .int .i64 0, .int .i64 0, .int .i64 0, .int .i64 0, .slice none 0 0, .bool false, .int .i64 t2, .int .i64 n2, .string s2, .bool false, .int .i64 0, .int .i64 0, .int .i64 0, .int .i64 0, .int .i64 0, .slice none 0 0] 38)) (w.heap.size + 1 + 1 + 1) #[.bool false, .int .i64 t0, .int .i64 n0, .string s0, .bool false, .int .i64 0, .int .i64 0, .int .i64 0, .int .i64 0, .int .i64 0, .slice none 0 0, .bool false, .int .i64 t1, .int .i64 n1, .string s1, .bool false, .int .i64 0, .int .i64 0, .int .i64 0, .int .i64 0, .int .i64 0, .slice none 0 0, .bool false, .int .i64 t2, .int .i64 n2, .string s2, .bool false, .int .i64 0, .int .i64 0, .int .i64 0, .int .i64 0, .int .i64 0, .slice none 0 0] := by with_reducible (repeat' first | assumption | refine Own.drew ?_ | refine Own.drewN ?_ _ | (refine Own.at ?_; first | rfl | (simp; done)) | refine Own.past ?_ _)
  rw [Nat.zero_add]
  refine (ho.cell _).trans ?_
  match i, hi with
  | 0, hi =>
    simp at hi
    subst hi
    match j, hj with
    | 0, _ => rfl
    | 1, _ => rfl
    | 2, _ => rfl
    | 3, _ => rfl
    | 4, _ => rfl
    | 5, _ => rfl
    | 6, _ => rfl
    | 7, _ => rfl
    | 8, _ => rfl
    | 9, _ => rfl
    | 10, _ => rfl
    | j + 11, hj => exact absurd hj (by omega)
  | i + 1, hi => simp at hi
theorem llist_2 (t0 n0 : Int) (s0 : ByteArray) (t1 n1 : Int) (s1 : ByteArray) (t2 n2 : Int) (s2 : ByteArray) (w : World) : Calls Tryz.prog 16 #[(.agg #[.bool false, .int .i64 t0, .int .i64 n0, .string s0, .bool false, .int .i64 0, .int .i64 0, .int .i64 0, .int .i64 0, .int .i64 0, .slice none 0 0]), (.agg #[.bool false, .int .i64 t1, .int .i64 n1, .string s1, .bool false, .int .i64 0, .int .i64 0, .int .i64 0, .int .i64 0, .int .i64 0, .slice none 0 0]), (.agg #[.bool false, .int .i64 t2, .int .i64 n2, .string s2, .bool false, .int .i64 0, .int .i64 0, .int .i64 0, .int .i64 0, .int .i64 0, .slice none 0 0]), .int .i64 2] w fun e w' => (∃ p c, e = .returned (.slice p 2 c) ∧ AV w' (.slice p 2 c) [argV t0 n0 s0 false 0, argV t1 n1 s1 false 0]) ∧ Below w.heap.size w w' := by
  go_enter Tryz.func16, Tryz.ntmps16
  go_wp2
  go_ret
  refine ⟨⟨some ⟨w.heap.size + 1 + 1 + 1, 0, none⟩, 3, rfl, some ⟨w.heap.size + 1 + 1 + 1, 0, none⟩, 3, rfl, by simp, fun _ => ⟨w.heap.size + 1 + 1 + 1, 0, rfl, by simp, fun i y hi j hj => ?_⟩⟩, by with_reducible (repeat' first | assumption | exact Below.refl _ _ | refine Below.drew ?_ | refine bdrewN ?_ _ | refine Below.setCell ?_ (by first | exact Nat.le_refl _ | (simp; done) | (simp; omega) | omega) _ | refine Below.alloc ?_ (by first | exact Nat.le_refl _ | (simp; done) | (simp; omega) | omega) _)⟩
  have ho : Own (World.alloc (World.alloc (World.alloc (World.alloc w (.cells #[.bool false, .int .i64 t0, .int .i64 n0, .string s0, .bool false, .int .i64 0, .int .i64 0, .int .i64 0, .int .i64 0, .int .i64 0, .slice none 0 0] 38)) (.cells #[.bool false, .int .i64 t1, .int .i64 n1, .string s1, .bool false, .int .i64 0, .int .i64 0, .int .i64 0, .int .i64 0, .int .i64 0, .slice none 0 0] 38)) (.cells #[.bool false, .int .i64 t2, .int .i64 n2, .string s2, .bool false, .int .i64 0, .int .i64 0, .int .i64 0, .int .i64 0, .int .i64 0, .slice none 0 0] 38)) (.cells #[.bool false, .int .i64 t0, .int .i64 n0, .string s0, .bool false, .int .i64 0, .int .i64 0, .int .i64 0, .int .i64 0, .int .i64 0, .slice none 0 0, .bool false, .int .i64 t1, .int .i64 n1, .string s1, .bool false, .int .i64 0, .int .i64 0, .int .i64 0, .int .i64 0, .int .i64 0, .slice none 0 0, .bool false, .int .i64 t2, .int .i64 n2, .string s2, .bool false, .int .i64 0, .int .i64 0, .int .i64 0, .int .i64 0, .int .i64 0, .slice none 0 0] 38)) (w.heap.size + 1 + 1 + 1) #[.bool false, .int .i64 t0, .int .i64 n0, .string s0, .bool false, .int .i64 0, .int .i64 0, .int .i64 0, .int .i64 0, .int .i64 0, .slice none 0 0, .bool false, .int .i64 t1, .int .i64 n1, .string s1, .bool false, .int .i64 0, .int .i64 0, .int .i64 0, .int .i64 0, .int .i64 0, .slice none 0 0, .bool false, .int .i64 t2, .int .i64 n2, .string s2, .bool false, .int .i64 0, .int .i64 0, .int .i64 0, .int .i64 0, .int .i64 0, .slice none 0 0] := by with_reducible (repeat' first | assumption | refine Own.drew ?_ | refine Own.drewN ?_ _ | (refine Own.at ?_; first | rfl | (simp; done)) | refine Own.past ?_ _)
  rw [Nat.zero_add]
  refine (ho.cell _).trans ?_
  match i, hi with
  | 0, hi =>
    simp at hi
    subst hi
    match j, hj with
    | 0, _ => rfl
    | 1, _ => rfl
    | 2, _ => rfl
    | 3, _ => rfl
    | 4, _ => rfl
    | 5, _ => rfl
    | 6, _ => rfl
    | 7, _ => rfl
    | 8, _ => rfl
    | 9, _ => rfl
    | 10, _ => rfl
    | j + 11, hj => exact absurd hj (by omega)
  | 1, hi =>
    simp at hi
    subst hi
    match j, hj with
    | 0, _ => rfl
    | 1, _ => rfl
    | 2, _ => rfl
    | 3, _ => rfl
    | 4, _ => rfl
    | 5, _ => rfl
    | 6, _ => rfl
    | 7, _ => rfl
    | 8, _ => rfl
    | 9, _ => rfl
    | 10, _ => rfl
    | j + 11, hj => exact absurd hj (by omega)
  | i + 2, hi => simp at hi
theorem llist_3 (t0 n0 : Int) (s0 : ByteArray) (t1 n1 : Int) (s1 : ByteArray) (t2 n2 : Int) (s2 : ByteArray) (w : World) : Calls Tryz.prog 16 #[(.agg #[.bool false, .int .i64 t0, .int .i64 n0, .string s0, .bool false, .int .i64 0, .int .i64 0, .int .i64 0, .int .i64 0, .int .i64 0, .slice none 0 0]), (.agg #[.bool false, .int .i64 t1, .int .i64 n1, .string s1, .bool false, .int .i64 0, .int .i64 0, .int .i64 0, .int .i64 0, .int .i64 0, .slice none 0 0]), (.agg #[.bool false, .int .i64 t2, .int .i64 n2, .string s2, .bool false, .int .i64 0, .int .i64 0, .int .i64 0, .int .i64 0, .int .i64 0, .slice none 0 0]), .int .i64 3] w fun e w' => (∃ p c, e = .returned (.slice p 3 c) ∧ AV w' (.slice p 3 c) [argV t0 n0 s0 false 0, argV t1 n1 s1 false 0, argV t2 n2 s2 false 0]) ∧ Below w.heap.size w w' := by
  go_enter Tryz.func16, Tryz.ntmps16
  go_wp2
  go_ret
  refine ⟨⟨some ⟨w.heap.size + 1 + 1 + 1, 0, none⟩, 3, rfl, some ⟨w.heap.size + 1 + 1 + 1, 0, none⟩, 3, rfl, by simp, fun _ => ⟨w.heap.size + 1 + 1 + 1, 0, rfl, by simp, fun i y hi j hj => ?_⟩⟩, by with_reducible (repeat' first | assumption | exact Below.refl _ _ | refine Below.drew ?_ | refine bdrewN ?_ _ | refine Below.setCell ?_ (by first | exact Nat.le_refl _ | (simp; done) | (simp; omega) | omega) _ | refine Below.alloc ?_ (by first | exact Nat.le_refl _ | (simp; done) | (simp; omega) | omega) _)⟩
  have ho : Own (World.alloc (World.alloc (World.alloc (World.alloc w (.cells #[.bool false, .int .i64 t0, .int .i64 n0, .string s0, .bool false, .int .i64 0, .int .i64 0, .int .i64 0, .int .i64 0, .int .i64 0, .slice none 0 0] 38)) (.cells #[.bool false, .int .i64 t1, .int .i64 n1, .string s1, .bool false, .int .i64 0, .int .i64 0, .int .i64 0, .int .i64 0, .int .i64 0, .slice none 0 0] 38)) (.cells #[.bool false, .int .i64 t2, .int .i64 n2, .string s2, .bool false, .int .i64 0, .int .i64 0, .int .i64 0, .int .i64 0, .int .i64 0, .slice none 0 0] 38)) (.cells #[.bool false, .int .i64 t0, .int .i64 n0, .string s0, .bool false, .int .i64 0, .int .i64 0, .int .i64 0, .int .i64 0, .int .i64 0, .slice none 0 0, .bool false, .int .i64 t1, .int .i64 n1, .string s1, .bool false, .int .i64 0, .int .i64 0, .int .i64 0, .int .i64 0, .int .i64 0, .slice none 0 0, .bool false, .int .i64 t2, .int .i64 n2, .string s2, .bool false, .int .i64 0, .int .i64 0, .int .i64 0, .int .i64 0, .int .i64 0, .slice none 0 0] 38)) (w.heap.size + 1 + 1 + 1) #[.bool false, .int .i64 t0, .int .i64 n0, .string s0, .bool false, .int .i64 0, .int .i64 0, .int .i64 0, .int .i64 0, .int .i64 0, .slice none 0 0, .bool false, .int .i64 t1, .int .i64 n1, .string s1, .bool false, .int .i64 0, .int .i64 0, .int .i64 0, .int .i64 0, .int .i64 0, .slice none 0 0, .bool false, .int .i64 t2, .int .i64 n2, .string s2, .bool false, .int .i64 0, .int .i64 0, .int .i64 0, .int .i64 0, .int .i64 0, .slice none 0 0] := by with_reducible (repeat' first | assumption | refine Own.drew ?_ | refine Own.drewN ?_ _ | (refine Own.at ?_; first | rfl | (simp; done)) | refine Own.past ?_ _)
  rw [Nat.zero_add]
  refine (ho.cell _).trans ?_
  match i, hi with
  | 0, hi =>
    simp at hi
    subst hi
    match j, hj with
    | 0, _ => rfl
    | 1, _ => rfl
    | 2, _ => rfl
    | 3, _ => rfl
    | 4, _ => rfl
    | 5, _ => rfl
    | 6, _ => rfl
    | 7, _ => rfl
    | 8, _ => rfl
    | 9, _ => rfl
    | 10, _ => rfl
    | j + 11, hj => exact absurd hj (by omega)
  | 1, hi =>
    simp at hi
    subst hi
    match j, hj with
    | 0, _ => rfl
    | 1, _ => rfl
    | 2, _ => rfl
    | 3, _ => rfl
    | 4, _ => rfl
    | 5, _ => rfl
    | 6, _ => rfl
    | 7, _ => rfl
    | 8, _ => rfl
    | 9, _ => rfl
    | 10, _ => rfl
    | j + 11, hj => exact absurd hj (by omega)
  | 2, hi =>
    simp at hi
    subst hi
    match j, hj with
    | 0, _ => rfl
    | 1, _ => rfl
    | 2, _ => rfl
    | 3, _ => rfl
    | 4, _ => rfl
    | 5, _ => rfl
    | 6, _ => rfl
    | 7, _ => rfl
    | 8, _ => rfl
    | 9, _ => rfl
    | 10, _ => rfl
    | j + 11, hj => exact absurd hj (by omega)
  | i + 3, hi => simp at hi
theorem lis (t n : Int) (s : ByteArray) (b : Bool) (c : Int) (u : ByteArray) (w : World) : Calls Tryz.prog 19 #[.agg #[.int .i64 t, .int .i64 n, .string s, .bool b, .int .i64 c], .string u] w fun e w' => e = .returned (.bool (sameB t n s b c 2 0 u false 0)) ∧ Below w.heap.size w w' := by
  have heq := eqv t n s b c 2 0 u false 0
  go_enter Tryz.func19, Tryz.ntmps19
  go_wp2
  go_ret
  exact ⟨rfl, by with_reducible (repeat' first | assumption | exact Below.refl _ _ | refine Below.drew ?_ | refine bdrewN ?_ _ | refine Below.setCell ?_ (by first | exact Nat.le_refl _ | (simp; done) | (simp; omega) | omega) _ | refine Below.alloc ?_ (by first | exact Nat.le_refl _ | (simp; done) | (simp; omega) | omega) _)⟩
theorem lfault (t n : Int) (s : ByteArray) (b : Bool) (c : Int) (u : Int) (w : World) : Calls Tryz.prog 20 #[.agg #[.int .i64 t, .int .i64 n, .string s, .bool b, .int .i64 c], .int .i64 u] w fun e w' => e = .returned (.bool (sameB t n s b c 4 0 ⟨#[]⟩ false u)) ∧ Below w.heap.size w w' := by
  have heq := eqv t n s b c 4 0 ⟨#[]⟩ false u
  go_enter Tryz.func20, Tryz.ntmps20
  go_wp2
  go_ret
  exact ⟨rfl, by with_reducible (repeat' first | assumption | exact Below.refl _ _ | refine Below.drew ?_ | refine bdrewN ?_ _ | refine Below.setCell ?_ (by first | exact Nat.le_refl _ | (simp; done) | (simp; omega) | omega) _ | refine Below.alloc ?_ (by first | exact Nat.le_refl _ | (simp; done) | (simp; omega) | omega) _)⟩
end Go.Proofs.YtdcfnfapdceenaaGreatDoor
