/- texts.Call at FIND. New memory alone is made. -/
import Derived.Test.YtdcfnfapdceenaaGreatDoorTP0
import Derived.Test.YtdcfnfapdceenaaGreatDoorTO
import Derived.Test.YtdcfnfapdceenaaGreatDoorTQ
namespace Go.Proofs.YtdcfnfapdceenaaGreatDoor.textsFinds
open Go.Shelf Go.RowKit
set_option linter.all false
theorem call_okb (s : ByteArray) (k : Nat) (hk : nmI s = k) (hk16 : k < 16) (w : World) (v : Value) (x : Int) (l : List Ag) (T : List ByteArray) (N : List Int) (hv : AV w v l) (h0 : 0 < l.length) (h16 : l.length ≤ 16) (hP : Pow w) (hc : hasB (loI k) (hiI k) (l.length : Int) = true) (hl : ∀ a ∈ l, okT a) (hT : (l.take (txN k)).map aT = T) (hN : (l.drop (txN k)).map aI = N) (hn : ∀ a ∈ l.drop (txN k), cdN a = 0) (hx : 0 ≤ x) (hx2 : x ≤ 1024) (rt rn : Int) (rs : ByteArray) (rb : Bool) (rc : Int)
    (hans : ∀ (W : World) (tp : Option Addr) (tc : Nat) (np : Option Addr) (nc : Nat), Below w.heap.size w W → SRow W (.slice tp T.length tc) T → IRow W (.slice np N.length nc) N → Calls Tryz.prog (fidI k) #[.agg #[.slice tp T.length tc, .slice np N.length nc, .int .i64 x]] W fun e w' => e = .returned (.agg #[.int .i64 rt, .int .i64 rn, .string rs, .bool rb, .int .i64 rc]) ∧ Below W.heap.size W w') :
    Calls Tryz.prog 9 #[.string s, v, .int .i64 x] w fun e w' => e = .returned (.agg #[.int .i64 rt, .int .i64 rn, .string rs, .bool rb, .int .i64 rc]) ∧ Below w.heap.size w w' := by
  subst hk hT hN
  exact c_ansb s w v x l hv (by omega) (fun a ha => (hl a ha).2.2.1) hk16 (by omega) (by omega) (by rw [hc, any_0 hl]; rfl) (firstF_0 hl) h0 h16 hP (fun a ha => (hl a ha).2.2.2) (firstN_0 hn) rt rn rs rb rc hans
theorem nm_find : nmI ⟨#[70, 73, 78, 68]⟩ = 8 := by kernel_rfl
theorem mx_of_shaped {W : World} (h : W.ShapedOpen Tryz.prog) : Mx W := Tryz.laysM219.s1_3 W h
theorem call_find (t s : ByteArray) (n y : Int) (hy : y = n * 10000) (w : World) (v : Value) (rt rn : Int) (rs : ByteArray) (rb : Bool) (rc : Int) (hv : AV w v [argV 2 0 t false 0, argV 2 0 s false 0, argV 1 y ⟨#[]⟩ false 0]) (hP : Pow w) (hn : Mod n)
    (hF : ∀ (W : World) (g tc h nc : Nat), Below w.heap.size w W → g < W.heap.size → h < W.heap.size → W.cell? ⟨g, 0, none⟩ = some (.string t) → W.cell? ⟨g, 1, none⟩ = some (.string s) → W.cell? ⟨h, 0, none⟩ = some (.int .i64 n) → Calls Tryz.prog 69 #[.agg #[.slice (some ⟨g, 0, none⟩) 2 tc, .slice (some ⟨h, 0, none⟩) 1 nc, .int .i64 0]] W fun e w' => e = .returned (.agg #[.int .i64 rt, .int .i64 rn, .string rs, .bool rb, .int .i64 rc]) ∧ Below W.heap.size W w') :
    Calls Tryz.prog 9 #[.string ⟨#[70, 73, 78, 68]⟩, v, .int .i64 0] w fun e w' => e = .returned (.agg #[.int .i64 rt, .int .i64 rn, .string rs, .bool rb, .int .i64 rc]) ∧ Below w.heap.size w w' := by
  subst hy
  refine call_okb _ 8 nm_find (by decide) w v 0 [argT t, argT s, argW n] [t, s] [n] hv (by simp) (by simp) hP (show hasB (loI 8) (hiI 8) 3 = true by decide) ?_ ?_ ?_ ?_ (by decide) (by decide) _ _ _ _ _ ?_
  · intro y hy
    simp at hy
    rcases hy with rfl | rfl | rfl
    · exact okT_T t
    · exact okT_T s
    · exact okT_W hn
  · show [aT (argT t), aT (argT s)] = [t, s]; rw [aT_T, aT_T]
  · show [aI (argW n)] = [n]; rw [aI_W hn]
  · intro y hy
    have hy' : y ∈ [argW n] := hy
    simp at hy'
    subst hy'
    exact cd_W hn
  · intro W tp tc np nc hb h1 h2
    obtain ⟨_, g, rfl, hg, hc⟩ := SRow.lay h1 (by simp)
    obtain ⟨_, h, rfl, hh, hd⟩ := IRow.lay h2 (by simp)
    exact hF W g tc h nc hb hg hh (hc 0 t rfl) (hc 1 s rfl) (hd 0 n rfl)
theorem modk {k : Nat} (h : k ≤ 1099511627776) : Mod ((k : Int) + 1) := ⟨by omega, by omega⟩
theorem p_far (t s : ByteArray) (k : Nat) (y : Int) (hy : y = ((k : Int) + 1) * 10000) (w : World) (v : Value) (hv : AV w v [argV 2 0 t false 0, argV 2 0 s false 0, argV 1 y ⟨#[]⟩ false 0]) (hP : Pow w) (hk : k ≤ 1099511627776) (hs : s.size < k) :
    Calls Tryz.prog 9 #[.string ⟨#[70, 73, 78, 68]⟩, v, .int .i64 0] w fun e w' => e = .returned (.agg #[.int .i64 (4), .int .i64 (0), .string (⟨#[]⟩), .bool false, .int .i64 (6)]) ∧ Below w.heap.size w w' :=
  call_find t s ((k : Int) + 1) y hy w v _ _ _ _ _ hv hP (modk hk) (fun W g tc h nc hb hg hh a b c => fp_far g tc h nc 0 _ t s W hg hh a b c (by omega) (by unfold wrap64; omega) (by rw [IntKind.wrap_i64]; omega) (by omega))
theorem p_miss (t s : ByteArray) (k : Nat) (y : Int) (hy : y = ((k : Int) + 1) * 10000) (w : World) (v : Value) (hv : AV w v [argV 2 0 t false 0, argV 2 0 s false 0, argV 1 y ⟨#[]⟩ false 0]) (hP : Pow w) (hM : Mx w) (hs : s.size ≤ 1048576) (hk : k ≤ s.size) (hi : Lib.index (s.data.toList.drop k) t.data.toList = -1) :
    Calls Tryz.prog 9 #[.string ⟨#[70, 73, 78, 68]⟩, v, .int .i64 0] w fun e w' => e = .returned (.agg #[.int .i64 (4), .int .i64 (0), .string (⟨#[]⟩), .bool false, .int .i64 (6)]) ∧ Below w.heap.size w w' :=
  call_find t s ((k : Int) + 1) y hy w v _ _ _ _ _ hv hP (modk (by omega)) (fun W g tc h nc hb hg hh a b c => fp_miss g tc h nc 0 _ t s W hg hh a b c (by omega) (by unfold wrap64; omega) (by rw [IntKind.wrap_i64]; omega) k (by omega) (by omega) _ rfl (-1) (fun W' hb' => by
    have q := idx_any (s.extract k s.size) t W' (by rw [ByteArray.size_extract]; omega) (hM.up (bup hb hb'))
    rw [rest_list, hi] at q
    exact q) (by decide))
theorem p_hit (t s : ByteArray) (k j : Nat) (y : Int) (hy : y = ((k : Int) + 1) * 10000) (w : World) (v : Value) (hv : AV w v [argV 2 0 t false 0, argV 2 0 s false 0, argV 1 y ⟨#[]⟩ false 0]) (hP : Pow w) (hM : Mx w) (hs : s.size ≤ 1048576) (hk : k ≤ s.size) (hj : k + j ≤ s.size) (hi : Lib.index (s.data.toList.drop k) t.data.toList = j) (q : Nat) (hq : k + j = q) (ee : Nat) (he : q + 1 = ee) :
    Calls Tryz.prog 9 #[.string ⟨#[70, 73, 78, 68]⟩, v, .int .i64 0] w fun e w' => e = .returned (.agg #[.int .i64 (1), .int .i64 ((ee : Int) * 10000), .string (⟨#[]⟩), .bool false, .int .i64 (0)]) ∧ Below w.heap.size w w' := by
  subst hq he
  rw [Int.natCast_add, Int.natCast_add]
  exact call_find t s ((k : Int) + 1) y hy w v _ _ _ _ _ hv hP (modk (by omega)) (fun W g tc h nc hb hg hh a b c => fp_hit g tc h nc 0 _ t s W hg hh a b c (by omega) (by unfold wrap64; omega) (by rw [IntKind.wrap_i64]; omega) k (by omega) (by omega) _ rfl (j : Int) (fun W' hb' => by
    have q := idx_any (s.extract k s.size) t W' (by rw [ByteArray.size_extract]; omega) (hM.up (bup hb hb'))
    rw [rest_list, hi] at q
    exact q) (by omega) (by omega))
theorem lfault_t (c : Int) (w : World) : Calls Tryz.prog 20 #[(.agg #[.int .i64 (4), .int .i64 (0), .string (⟨#[]⟩), .bool false, .int .i64 (c)]), .int .i64 c] w fun e w' => e = .returned (.bool true) ∧ Below w.heap.size w w' := by
  have h := lfault 4 0 ⟨#[]⟩ false c c w
  rw [show sameB 4 0 ⟨#[]⟩ false c 4 0 ⟨#[]⟩ false c = true by simp [sameB]] at h
  exact h
end Go.Proofs.YtdcfnfapdceenaaGreatDoor.textsFinds
