/- What the law TextsParts asks texts.Call; small facts of texts. New memory alone is made. -/
import Derived.Test.YtdcfnfapdceenaaGreatDoorTV
import Derived.Test.YtdcfnfapdceenaaGreatDoorTK
namespace Go.Proofs.YtdcfnfapdceenaaGreatDoor.textsParts
open Go.Shelf Go.RowKit
set_option linter.all false
theorem kk {s : ByteArray} {k : Nat} (h : k ≤ s.size) : min ((k : Int)).toNat s.size = k := by rw [Int.toNat_natCast]; omega
theorem left_is {s : ByteArray} {k : Nat} (h : k ≤ s.size) : s.extract 0 (min ((k : Int)).toNat s.size) = s.extract 0 k := by rw [kk h]
theorem right_is {s : ByteArray} {k : Nat} (h : k ≤ s.size) : s.extract (s.size - min ((s.size : Int) - (k : Int)).toNat s.size) s.size = s.extract k s.size := by
  rw [show s.size - min ((s.size : Int) - (k : Int)).toNat s.size = k by omega]
theorem ext_all (r : ByteArray) : r.extract 0 r.size = r := by simp
theorem mid_hi {s : ByteArray} {k : Nat} (h : k ≤ s.size) : midB s ((k : Int) + 1) (s.size : Int) = s.extract k s.size := by
  have hr : rst s ((k : Int) + 1) = s.extract k s.size := by unfold rst; rw [show min ((k : Int) + 1 - 1).toNat s.size = k by omega]
  have hz : (s.extract k s.size).size = s.size - k := by rw [ByteArray.size_extract]; omega
  unfold midB
  rw [hr, show min ((s.size : Int)).toNat (s.extract k s.size).size = (s.extract k s.size).size by rw [hz]; omega, ext_all]
theorem mid_lo {s : ByteArray} {k : Nat} (h : k ≤ s.size) : midB s 1 (k : Int) = s.extract 0 k := by
  have hr : rst s 1 = s := by unfold rst; rw [show min ((1 : Int) - 1).toNat s.size = 0 by omega, ext_all]
  unfold midB
  rw [hr, kk h]
theorem rev_rev (s : ByteArray) : (⟨(⟨s.data.toList.reverse.toArray⟩ : ByteArray).data.toList.reverse.toArray⟩ : ByteArray) = s := by
  simp
theorem up_lo (b : UInt8) : upB (loB b) = upB b := by
  have h256 := b.toNat_lt
  unfold loB
  by_cases h : 65 ≤ b.toNat ∧ b.toNat < 91
  · rw [if_pos h]
    have e : (UInt8.ofNat (b.toNat + 32)).toNat = b.toNat + 32 := by rw [UInt8.toNat_ofNat']; omega
    have h2 : ¬ (97 ≤ b.toNat ∧ b.toNat < 123) := by omega
    unfold upB
    rw [e, if_pos (by omega), if_neg h2, Nat.add_sub_cancel]
    exact UInt8.ofNat_toNat
  · rw [if_neg h]
theorem up_lo_all (s : ByteArray) : (⟨((⟨(s.data.toList.map loB).toArray⟩ : ByteArray).data.toList.map upB).toArray⟩ : ByteArray) = ⟨(s.data.toList.map upB).toArray⟩ := by
  have : ∀ l : List UInt8, (l.map loB).map upB = l.map upB := fun l => by rw [List.map_map]; exact List.map_congr_left (fun b _ => up_lo b)
  show (⟨(((s.data.toList.map loB).toArray.toList).map upB).toArray⟩ : ByteArray) = _
  rw [List.toList_toArray, this]
theorem sz_map (s : ByteArray) (f : UInt8 → UInt8) : (⟨(s.data.toList.map f).toArray⟩ : ByteArray).size = s.size := by
  show (s.data.toList.map f).toArray.size = s.data.size
  simp
theorem sz_rev (s : ByteArray) : (⟨s.data.toList.reverse.toArray⟩ : ByteArray).size = s.size := by
  show (s.data.toList.reverse).toArray.size = s.data.size
  simp
theorem p_left (s : ByteArray) (k : Nat) (hk : k ≤ s.size) (a : Int) (ha : a = (k : Int) * 10000) (w : World) (v : Value) (x : Int) (hx : x = (s.size : Int)) (hs : s.size ≤ 1024) (hv : AV w v [argV 2 0 s false 0, argV 1 a ⟨#[]⟩ false 0]) (hP : Pow w) : Calls Tryz.prog 9 #[.string ⟨#[76, 69, 70, 84]⟩, v, .int .i64 x] w fun e w' => e = .returned (.agg #[.int .i64 (2), .int .i64 (0), .string (s.extract 0 k), .bool false, .int .i64 (0)]) ∧ Below w.heap.size w w' := by
  subst hx ha
  have h := call_left s (k : Int) w v (s.size : Int) hv hP ⟨by omega, by omega⟩ (by omega) (by omega) (by omega) (by omega)
  rw [left_is hk] at h
  obtain ⟨e1, e2, e3⟩ := to_fit (s := s.extract 0 k) (x := (s.size : Int)) (by rw [ByteArray.size_extract]; omega)
  rw [e1, e2, e3] at h
  exact h
theorem p_right (s : ByteArray) (k : Nat) (hk : k ≤ s.size) (a : Int) (ha : a = ((s.size : Int) - (k : Int)) * 10000) (w : World) (v : Value) (x : Int) (hx : x = (s.size : Int)) (hs : s.size ≤ 1024) (hv : AV w v [argV 2 0 s false 0, argV 1 a ⟨#[]⟩ false 0]) (hP : Pow w) : Calls Tryz.prog 9 #[.string ⟨#[82, 73, 71, 72, 84]⟩, v, .int .i64 x] w fun e w' => e = .returned (.agg #[.int .i64 (2), .int .i64 (0), .string (s.extract k s.size), .bool false, .int .i64 (0)]) ∧ Below w.heap.size w w' := by
  subst hx ha
  have h := call_right s ((s.size : Int) - (k : Int)) w v (s.size : Int) hv hP ⟨by omega, by omega⟩ (by omega) (by omega) (by omega) (by omega)
  rw [right_is hk] at h
  obtain ⟨e1, e2, e3⟩ := to_fit (s := s.extract k s.size) (x := (s.size : Int)) (by rw [ByteArray.size_extract]; omega)
  rw [e1, e2, e3] at h
  exact h
theorem p_midh (s : ByteArray) (k : Nat) (hk : k ≤ s.size) (a : Int) (ha : a = ((k : Int) + 1) * 10000) (b : Int) (hb : b = (s.size : Int) * 10000) (w : World) (v : Value) (x : Int) (hx : x = (s.size : Int)) (hs : s.size ≤ 1024) (hv : AV w v [argV 2 0 s false 0, argV 1 a ⟨#[]⟩ false 0, argV 1 b ⟨#[]⟩ false 0]) (hP : Pow w) : Calls Tryz.prog 9 #[.string ⟨#[77, 73, 68]⟩, v, .int .i64 x] w fun e w' => e = .returned (.agg #[.int .i64 (2), .int .i64 (0), .string (s.extract k s.size), .bool false, .int .i64 (0)]) ∧ Below w.heap.size w w' := by
  subst hx ha hb
  have h := call_mid s ((k : Int) + 1) (s.size : Int) w v (s.size : Int) hv hP ⟨by omega, by omega⟩ ⟨by omega, by omega⟩ (by omega) (by omega) (by omega) (by omega) (by omega)
  rw [mid_hi hk] at h
  obtain ⟨e1, e2, e3⟩ := to_fit (s := s.extract k s.size) (x := (s.size : Int)) (by rw [ByteArray.size_extract]; omega)
  rw [e1, e2, e3] at h
  exact h
theorem p_midl (s : ByteArray) (k : Nat) (hk : k ≤ s.size) (a : Int) (ha : a = 1 * 10000) (b : Int) (hb : b = (k : Int) * 10000) (w : World) (v : Value) (x : Int) (hx : x = (s.size : Int)) (hs : s.size ≤ 1024) (hv : AV w v [argV 2 0 s false 0, argV 1 a ⟨#[]⟩ false 0, argV 1 b ⟨#[]⟩ false 0]) (hP : Pow w) : Calls Tryz.prog 9 #[.string ⟨#[77, 73, 68]⟩, v, .int .i64 x] w fun e w' => e = .returned (.agg #[.int .i64 (2), .int .i64 (0), .string (s.extract 0 k), .bool false, .int .i64 (0)]) ∧ Below w.heap.size w w' := by
  subst hx ha hb
  have h := call_mid s 1 (k : Int) w v (s.size : Int) hv hP ⟨by omega, by omega⟩ ⟨by omega, by omega⟩ (by omega) (by omega) (by omega) (by omega) (by omega)
  rw [mid_lo hk] at h
  obtain ⟨e1, e2, e3⟩ := to_fit (s := s.extract 0 k) (x := (s.size : Int)) (by rw [ByteArray.size_extract]; omega)
  rw [e1, e2, e3] at h
  exact h
theorem p_rev (s : ByteArray) (r : ByteArray) (hr : r = (⟨s.data.toList.reverse.toArray⟩ : ByteArray)) (w : World) (v : Value) (x : Int) (hx : x = (s.size : Int)) (hs : s.size ≤ 1024) (hv : AV w v [argV 2 0 s false 0]) (hP : Pow w) : Calls Tryz.prog 9 #[.string ⟨#[82, 69, 86]⟩, v, .int .i64 x] w fun e w' => e = .returned (.agg #[.int .i64 (2), .int .i64 (0), .string (r), .bool false, .int .i64 (0)]) ∧ Below w.heap.size w w' := by
  subst hx hr
  have h := call_rev s w v (s.size : Int) hv hP (by omega) (by omega) (by omega)
  skip
  obtain ⟨e1, e2, e3⟩ := to_fit (s := (⟨s.data.toList.reverse.toArray⟩ : ByteArray)) (x := (s.size : Int)) (by rw [sz_rev]; omega)
  rw [e1, e2, e3] at h
  exact h
theorem p_rev2 (s : ByteArray) (r : ByteArray) (hr : r = (⟨s.data.toList.reverse.toArray⟩ : ByteArray)) (w : World) (v : Value) (x : Int) (hx : x = (s.size : Int)) (hs : s.size ≤ 1024) (hv : AV w v [argV 2 0 r false 0]) (hP : Pow w) : Calls Tryz.prog 9 #[.string ⟨#[82, 69, 86]⟩, v, .int .i64 x] w fun e w' => e = .returned (.agg #[.int .i64 (2), .int .i64 (0), .string (s), .bool false, .int .i64 (0)]) ∧ Below w.heap.size w w' := by
  subst hx hr
  have h := call_rev (⟨s.data.toList.reverse.toArray⟩ : ByteArray) w v (s.size : Int) hv hP (by omega) (by omega) (by rw [sz_rev]; omega)
  rw [rev_rev] at h
  obtain ⟨e1, e2, e3⟩ := to_fit (s := s) (x := (s.size : Int)) (by omega)
  rw [e1, e2, e3] at h
  exact h
theorem p_lo (s : ByteArray) (r : ByteArray) (hr : r = (⟨(s.data.toList.map loB).toArray⟩ : ByteArray)) (w : World) (v : Value) (x : Int) (hx : x = (s.size : Int)) (hs : s.size ≤ 1024) (hv : AV w v [argV 2 0 s false 0]) (hP : Pow w) : Calls Tryz.prog 9 #[.string ⟨#[76, 79, 87, 69, 82]⟩, v, .int .i64 x] w fun e w' => e = .returned (.agg #[.int .i64 (2), .int .i64 (0), .string (r), .bool false, .int .i64 (0)]) ∧ Below w.heap.size w w' := by
  subst hx hr
  have h := call_lower s w v (s.size : Int) hv hP (by omega) (by omega) (by omega)
  skip
  obtain ⟨e1, e2, e3⟩ := to_fit (s := (⟨(s.data.toList.map loB).toArray⟩ : ByteArray)) (x := (s.size : Int)) (by rw [sz_map]; omega)
  rw [e1, e2, e3] at h
  exact h
theorem p_up (s : ByteArray) (r : ByteArray) (hr : r = (⟨(s.data.toList.map upB).toArray⟩ : ByteArray)) (w : World) (v : Value) (x : Int) (hx : x = (s.size : Int)) (hs : s.size ≤ 1024) (hv : AV w v [argV 2 0 s false 0]) (hP : Pow w) : Calls Tryz.prog 9 #[.string ⟨#[85, 80, 80, 69, 82]⟩, v, .int .i64 x] w fun e w' => e = .returned (.agg #[.int .i64 (2), .int .i64 (0), .string (r), .bool false, .int .i64 (0)]) ∧ Below w.heap.size w w' := by
  subst hx hr
  have h := call_upper s w v (s.size : Int) hv hP (by omega) (by omega) (by omega)
  skip
  obtain ⟨e1, e2, e3⟩ := to_fit (s := (⟨(s.data.toList.map upB).toArray⟩ : ByteArray)) (x := (s.size : Int)) (by rw [sz_map]; omega)
  rw [e1, e2, e3] at h
  exact h
theorem p_up2 (s : ByteArray) (q : ByteArray) (hq : q = (⟨(s.data.toList.map loB).toArray⟩ : ByteArray)) (r : ByteArray) (hr : r = (⟨(s.data.toList.map upB).toArray⟩ : ByteArray)) (w : World) (v : Value) (x : Int) (hx : x = (s.size : Int)) (hs : s.size ≤ 1024) (hv : AV w v [argV 2 0 q false 0]) (hP : Pow w) : Calls Tryz.prog 9 #[.string ⟨#[85, 80, 80, 69, 82]⟩, v, .int .i64 x] w fun e w' => e = .returned (.agg #[.int .i64 (2), .int .i64 (0), .string (r), .bool false, .int .i64 (0)]) ∧ Below w.heap.size w w' := by
  subst hx hq hr
  have h := call_upper (⟨(s.data.toList.map loB).toArray⟩ : ByteArray) w v (s.size : Int) hv hP (by omega) (by omega) (by rw [sz_map]; omega)
  rw [up_lo_all] at h
  obtain ⟨e1, e2, e3⟩ := to_fit (s := (⟨(s.data.toList.map upB).toArray⟩ : ByteArray)) (x := (s.size : Int)) (by rw [sz_map]; omega)
  rw [e1, e2, e3] at h
  exact h
theorem nev (t n : Int) (s : ByteArray) (b : Bool) (c : Int) (t' n' : Int) (s' : ByteArray) (b' : Bool) (c' : Int) (w : World) : (binOp .neq 26 (.agg #[.int .i64 (t), .int .i64 (n), .string s, .bool b, .int .i64 (c)]) (.agg #[.int .i64 (t'), .int .i64 (n'), .string s', .bool b', .int .i64 (c')])).run Tryz.prog w = .ok (.bool (!sameB t n s b c t' n' s' b' c')) w := by
  rw [run_neq_struct, run_equalIn_agg w 9999 26 _ _ (by kernel_rfl) (by kernel_rfl)]
  unfold sameB
  go_simp
  by_cases h1 : t = t'
  · by_cases h2 : n = n'
    · by_cases h3 : s = s'
      · by_cases h4 : b = b'
        · by_cases h5 : c = c' <;> simp [h1, h2, h3, h4, h5]
        · simp [h1, h2, h3, h4]
      · have h3' : ¬ s.toList = s'.toList := fun h => h3 (toList_inj h)
        simp [h1, h2, h3, h3']
    · simp [h1, h2]
  · simp [h1]
theorem lis_t (u : ByteArray) (w : World) : Calls Tryz.prog 19 #[(.agg #[.int .i64 (2), .int .i64 (0), .string (u), .bool false, .int .i64 (0)]), .string u] w fun e w' => e = .returned (.bool true) ∧ Below w.heap.size w w' := by
  have h := lis 2 0 u false 0 u w
  rw [show sameB 2 0 u false 0 2 0 u false 0 = true by simp [sameB]] at h
  exact h
theorem Bag.drew {w : World} {L : List (Nat × Array Value)} (h : Bag w L) : Bag w.drew L := fun p hp => (h p hp).drew
theorem eq_t (t n : Int) (s : ByteArray) (w : World) : (binOp .eql 26 (.agg #[.int .i64 (t), .int .i64 (n), .string (s), .bool false, .int .i64 (0)]) (.agg #[.int .i64 (t), .int .i64 (n), .string (s), .bool false, .int .i64 (0)])).run Tryz.prog w = .ok (.bool true) w := by
  have h := eqv t n s false 0 t n s false 0 w
  rw [show sameB t n s false 0 t n s false 0 = true by simp [sameB]] at h
  exact h
theorem ne_f (t n : Int) (s : ByteArray) (w : World) : (binOp .neq 26 (.agg #[.int .i64 (t), .int .i64 (n), .string (s), .bool false, .int .i64 (0)]) (.agg #[.int .i64 (t), .int .i64 (n), .string (s), .bool false, .int .i64 (0)])).run Tryz.prog w = .ok (.bool false) w := by
  have h := nev t n s false 0 t n s false 0 w
  rw [show sameB t n s false 0 t n s false 0 = true by simp [sameB]] at h
  exact h
theorem len_t (s : ByteArray) (w : World) (v : Value) (hs : s.size ≤ 1024) (hv : AV w v [argV 2 0 s false 0]) (hP : Pow w) : Calls Tryz.prog 9 #[.string ⟨#[76, 69, 78]⟩, v, .int .i64 0] w fun e w' => e = .returned (.agg #[.int .i64 (1), .int .i64 ((s.size : Int) * 10000), .string (⟨#[]⟩), .bool false, .int .i64 (0)]) ∧ Below w.heap.size w w' :=
  call_len s w v 0 hv hP (by decide) (by decide) (by omega)
end Go.Proofs.YtdcfnfapdceenaaGreatDoor.textsParts
