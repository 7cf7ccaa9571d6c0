/- The contracts of the document's column and digits: of every column that may be its letters -/
import Derived.Test.YtcmjhjnpcogmgaaGreatDoorUAuto
import Derived.Test.YtcmjhjnpcogmgaaGreatDoorUABA1AMP1P2
import Derived.LoopTactic
import Derived.Test.YtcmjhjnpcogmgaaGreatDoorUA2P3
set_option linter.all false
set_option maxRecDepth 100000
set_option maxHeartbeats 4000000
namespace Go.Proofs.YtcmjhjnpcogmgaaGreatDoor
open Go.RowKit
def colS (c : Int) : ByteArray := ⟨(colL c.toNat).toArray⟩
def digS (r : Int) : ByteArray := ⟨(Lib.decDigits r.toNat).toArray⟩
theorem az_fin : ∀ i : Fin 26, (⟨#[65, 66, 67, 68, 69, 70, 71, 72, 73, 74, 75, 76, 77, 78, 79, 80, 81, 82, 83, 84, 85, 86, 87, 88, 89, 90]⟩ : ByteArray).extract i.val (i.val + 1) = ⟨#[UInt8.ofNat (65 + i.val)]⟩ := by decide +kernel
theorem az (a b : Nat) (h : a < 26) (hb : b = a + 1) : (⟨#[65, 66, 67, 68, 69, 70, 71, 72, 73, 74, 75, 76, 77, 78, 79, 80, 81, 82, 83, 84, 85, 86, 87, 88, 89, 90]⟩ : ByteArray).extract a b = ⟨#[UInt8.ofNat (65 + a)]⟩ := by subst hb; exact az_fin ⟨a, h⟩
theorem dz_fin : ∀ i : Fin 10, (⟨#[48, 49, 50, 51, 52, 53, 54, 55, 56, 57]⟩ : ByteArray).extract i.val (i.val + 1) = ⟨#[UInt8.ofNat (48 + i.val)]⟩ := by decide +kernel
theorem dz (a b : Nat) (h : a < 10) (hb : b = a + 1) : (⟨#[48, 49, 50, 51, 52, 53, 54, 55, 56, 57]⟩ : ByteArray).extract a b = ⟨#[UInt8.ofNat (48 + a)]⟩ := by subst hb; exact dz_fin ⟨a, h⟩
theorem app_list (a b : List UInt8) : (⟨a.toArray⟩ : ByteArray) ++ (⟨b.toArray⟩ : ByteArray) = ⟨(a ++ b).toArray⟩ := by
 apply ByteArray.ext
 simp
theorem colS_1 (n : Int) (h1 : 1 ≤ n) (h2 : n ≤ 26) : (⟨#[65, 66, 67, 68, 69, 70, 71, 72, 73, 74, 75, 76, 77, 78, 79, 80, 81, 82, 83, 84, 85, 86, 87, 88, 89, 90]⟩ : ByteArray).extract (n.toNat - 1) n.toNat = colS n := by
 rw [az _ _ zq17 zq17]
 unfold colS colL
 rw [if_neg zq17, if_pos zq17, show 65 + (n.toNat - 1) = 64 + n.toNat by omega]
theorem colS_2 (n : Int) (h1 : 26 < n) (h2 : n ≤ 256) : (⟨#[65, 66, 67, 68, 69, 70, 71, 72, 73, 74, 75, 76, 77, 78, 79, 80, 81, 82, 83, 84, 85, 86, 87, 88, 89, 90]⟩ : ByteArray).extract ((n - 27) / 26).toNat ((n - 27) / 26 + 1).toNat ++ (⟨#[65, 66, 67, 68, 69, 70, 71, 72, 73, 74, 75, 76, 77, 78, 79, 80, 81, 82, 83, 84, 85, 86, 87, 88, 89, 90]⟩ : ByteArray).extract ((n - 27) % 26).toNat ((n - 27) % 26 + 1).toNat = colS n := by
 rw [az _ _ zq17 zq17, az _ _ zq17 zq17]
 unfold colS colL
 rw [if_neg zq17, if_neg zq17]
 rw [show 65 + ((n - 27) / 26).toNat = 64 + (n.toNat - 1) / 26 by omega, show 65 + ((n - 27) % 26).toNat = 65 + (n.toNat - 1) % 26 by omega]
 exact app_list [_] [_]
theorem row_step (n : Nat) (h : 0 < n) : rowL n = rowL (n / 10) ++ [UInt8.ofNat (48 + n % 10)] := by
 rw [rowL_pos h]
 by_cases k : n < 10
 ·rw [Lib.decDigits_one k, show n / 10 = 0 by omega, show n % 10 = n by omega]; rfl
 ·rw [Lib.decDigits, dif_neg k, rowL_pos zq17]
theorem dig_app (n : Nat) (t : List UInt8) : (⟨#[48, 49, 50, 51, 52, 53, 54, 55, 56, 57]⟩ : ByteArray).extract (n % 10) (n % 10 + 1) ++ (⟨t.toArray⟩ : ByteArray) = ⟨(UInt8.ofNat (48 + n % 10) :: t).toArray⟩ := by
 rw [dz _ _ zq17 rfl]
 exact app_list [_] t
theorem rcol1 (n : Int) (w : World) (h1 : 1 ≤ n) (h2 : n ≤ 26) : Calls Tryz.prog 109 #[.int .i64 n] w fun e w' => e = .returned (.string (colS n)) ∧ Below w.heap.size w w' := by
 go_enter Tryz.func109, Tryz.ntmps109
 go_wp2
 all_goals go_ret
 all_goals exact ⟨retS (colS_1 n h1 h2), Below.refl _ _⟩
theorem rcol2 (n : Int) (w : World) (h1 : 26 < n) (h2 : n ≤ 256) : Calls Tryz.prog 109 #[.int .i64 n] w fun e w' => e = .returned (.string (colS n)) ∧ Below w.heap.size w w' := by
 go_enter Tryz.func109, Tryz.ntmps109
 go_wp2
 all_goals go_quiet (fail)
 all_goals go_wp2
 all_goals go_ret
 all_goals exact ⟨retS (colS_2 n h1 h2), bdrewN (Below.refl _ _) _⟩
theorem rcol_any (n : Int) (w : World) (h1 : 1 ≤ n) (h2 : n ≤ 256) : Calls Tryz.prog 109 #[.int .i64 n] w fun e w' => e = .returned (.string (colS n)) ∧ Below w.heap.size w w' := by
 by_cases h : n ≤ 26
 ·exact rcol1 n w h1 h
 ·exact rcol2 n w zq17 h2
theorem rdig_any (r : Int) (w : World) (h1 : 1 ≤ r) (h2 : r ≤ 4096) : Calls Tryz.prog 150 #[.int .i64 r] w fun e w' => e = .returned (.string (digS r)) ∧ w' = w := by
 go_enter Tryz.func150, Tryz.ntmps150
 go_wp2
 go_loop [0, 3] (fun a b => ∃ (n : Nat) (t : List UInt8), a = .int .i64 n ∧ b = .string ⟨t.toArray⟩ ∧ n ≤ 4096 ∧ rowL n ++ t = Lib.decDigits r.toNat) (fun a _ => (intOf a).toNat)
 case atStart => exact ⟨r.toNat, [], by rw [Int.toNat_of_nonneg zq17], rfl, zq17, by rw [rowL_pos zq17, List.append_nil]⟩
 case round =>
  obtain ⟨n, t, rfl, rfl, hn, ht⟩ := hrel
  by_cases h0 : 0 < n
  ·rw [row_step n h0] at ht
   have h0' : (0 : Int) < n := by omega
   have hl : t.length ≤ 4 := by
    have e := congrArg List.length ht
    have := dec_len r.toNat zq17 zq17
    simp at e; omega
   have hq : ¬ (9223372036854775807 < min (n % 10 + 1) 10 - n % 10 + t.length) := by omega
   go_wp2
   all_goals refine ⟨⟨n / 10, UInt8.ofNat (48 + n % 10) :: t, by go_num, by rw [dig_app], zq17, by rw [← ht]; simp⟩, by simp [intOf]; omega⟩
  ·obtain rfl : n = 0 := by omega
   go_wp2
   all_goals go_ret
   all_goals exact ⟨by rw [show rowL 0 = [] from rfl, List.nil_append] at ht; rw [ht]; rfl, rfl⟩
end Go.Proofs.YtcmjhjnpcogmgaaGreatDoor
namespace Go.Proofs.YtcmjhjnpcogmgaaGreatDoor
open Go.RowKit
def nameS (r c : Int) : ByteArray := if mayC r c then colS c ++ digS r else ⟨#[]⟩
theorem nameS_t {r c : Int} (h : mayC r c = true) : nameS r c = colS c ++ digS r := by unfold nameS; rw [h]; rfl
theorem nameS_f {r c : Int} (h : mayC r c = false) : nameS r c = ⟨#[]⟩ := by unfold nameS; rw [h]; rfl
theorem colS_size (c : Int) : (colS c).size ≤ 2 := by
 show (colL c.toNat).toArray.size ≤ 2
 unfold colL
 split
 ·simp
 ·split <;> simp
theorem digS_size (r : Int) (h1 : 1 ≤ r) (h2 : r ≤ 4096) : (digS r).size ≤ 4 := by
 show (Lib.decDigits r.toNat).toArray.size ≤ 4
 have := dec_len r.toNat zq17 zq17
 simp; omega
theorem rname1 (r c : Int) (w : World) (h : mayC r c = false) : Calls Tryz.prog 110 #[(.agg #[.int .i64 (r), .int .i64 (c)])] w fun e w' => e = .returned (.string ⟨#[]⟩) ∧ Below w.heap.size w w' := by
 go_enter Tryz.func110, Tryz.ntmps110
 go_wp2_with (go_at_call 149; refine (rmay_any _ _ _).mono ?_; rintro e w1 ⟨rfl, hb⟩; have hB := bux w zq2 hb; have o0 : Own w1 (w.heap.size) #[.int .i64 (r), .int .i64 (c)] := Own.keep zq5 hb; have c0 := o0.cell; have f0 := o0.fro; have l0 := o0.lt)
 all_goals go_ret
 all_goals exact ⟨rfl, zq2⟩
theorem rname2 (r c : Int) (w : World) (h : mayC r c = true) (k1 : 1 ≤ r) (k2 : r ≤ 4096) (k3 : 1 ≤ c) (k4 : c ≤ 256) (hq : ¬ (9223372036854775807 < (colS c).size + (digS r).size)) : Calls Tryz.prog 110 #[(.agg #[.int .i64 (r), .int .i64 (c)])] w fun e w' => e = .returned (.string (colS c ++ digS r)) ∧ Below w.heap.size w w' := by
 go_enter Tryz.func110, Tryz.ntmps110
 go_wp2_with (go_at_call 149; refine (rmay_any _ _ _).mono ?_; rintro e w1 ⟨rfl, hb⟩; have hB := bux w zq2 hb; have o0 : Own w1 (w.heap.size) #[.int .i64 (r), .int .i64 (c)] := Own.keep zq5 hb; have c0 := o0.cell; have f0 := o0.fro; have l0 := o0.lt)
 all_goals go_region_held3 (fun w' => w'.cell? ⟨w.heap.size, 0, none⟩ = some (.int .i64 (r)) ∧ w'.cell? ⟨w.heap.size, 1, none⟩ = some (.int .i64 (c))) ((repeat' apply And.intro) <;> (first | (go_keep; done) | (go_simp; done)))
  (first | (go_at_call 109; refine (rcol_any _ _ zq15 zq15).mono ?_; rintro e w1 ⟨rfl, hb⟩; have hB := bux w zq2 hb; have o0 : Own w1 (w.heap.size) #[.int .i64 (r), .int .i64 (c)] := Own.keep zq5 hb; have c0 := o0.cell; have f0 := o0.fro; have l0 := o0.lt) | (go_at_call 150; refine (rdig_any _ _ zq15 zq15).mono ?_; rintro e w5 ⟨rfl, rfl⟩))
 all_goals go_wp2
 all_goals go_ret
 all_goals exact ⟨rfl, zq2⟩
theorem rname_any (r c : Int) (w : World) : Calls Tryz.prog 110 #[(.agg #[.int .i64 (r), .int .i64 (c)])] w fun e w' => e = .returned (.string (nameS r c)) ∧ Below w.heap.size w w' := by
 cases h : mayC r c
 ·rw [nameS_f h]; exact rname1 r c w h
 ·obtain ⟨k1, k2, k3, k4⟩ := mayC_is h
  have a := colS_size c
  have b := digS_size r k1 k2
  rw [nameS_t h]; exact rname2 r c w h k1 k2 k3 k4 zq17
end Go.Proofs.YtcmjhjnpcogmgaaGreatDoor
namespace Go.Proofs.YtcmjhjnpcogmgaaGreatDoor
open Go.RowKit
theorem bytes_ext {s t : ByteArray} (h : s.data.toList = t.data.toList) : s = t := by
 obtain ⟨⟨x⟩⟩ := s
 obtain ⟨⟨y⟩⟩ := t
 simp at h
 rw [h]
theorem mayN_of {r c : Int} (h : mayC r c = true) : mayN r.toNat c.toNat := by
 have k := mayC_is h
 unfold mayN; omega
theorem mayC_of {r c : Nat} (h : mayN r c) : mayC (r : Int) (c : Int) = true := by
 unfold mayN at h
 exact mayC_t zq17
theorem nameS_list {r c : Int} (h : mayC r c = true) : (nameS r c).data.toList = colL c.toNat ++ rowL r.toNat := by
 rw [nameS_t h]
 have k := mayC_is h
 unfold colS digS
 rw [app_list, rowL_pos zq17]
theorem pO_name {r c : Int} (h : mayC r c = true) : pO (nameS r c) = some (r.toNat, c.toNat) := by
 unfold pO
 rw [nameS_list h]
 exact pst_name _ _ (mayN_of h)
theorem pB_name (r c : Int) : pB (nameS r c) = mayC r c := by
 cases h : mayC r c
 ·rw [nameS_f h]; rfl
 ·unfold pB; rw [pO_name h]; rfl
theorem pR_name {r c : Int} (h : mayC r c = true) : pR (nameS r c) = r := by
 have k := mayC_is h
 rw [(pS (pO_name h)).1]; omega
theorem pC_name {r c : Int} (h : mayC r c = true) : pC (nameS r c) = c := by
 have k := mayC_is h
 rw [(pS (pO_name h)).2.1]; omega
theorem name_p {s : ByteArray} (h : pB s = true) : nameS (pR s) (pC s) = s ∧ mayC (pR s) (pC s) = true := by
 unfold pB at h
 obtain ⟨⟨r, c⟩, hO⟩ := Option.isSome_iff_exists.1 h
 have e := pS hO
 have k := (pst_is s.data.toList r c).1 hO
 have hm : mayC (pR s) (pC s) = true := by rw [e.1, e.2.1]; exact mayC_of k.1
 refine ⟨bytes_ext ?_, hm⟩
 rw [nameS_list hm, e.1, e.2.1]
 simpa using k.2
theorem idx_app : ∀ (a b : List UInt8), (∀ x ∈ a, x ≠ 58) → Lib.indexByte (a ++ 58 :: b) 58 = a.length
 | [], b, _ => by simp [Lib.indexByte]
 | x :: a, b, h => by
  have ih := idx_app a b (fun y hy => h y (List.mem_cons_of_mem _ hy))
  have hx : x ≠ 58 := h x List.mem_cons_self
  simp [Lib.indexByte, hx, ih]
theorem pB_nil : pB ⟨#[]⟩ = false := by decide
end Go.Proofs.YtcmjhjnpcogmgaaGreatDoor
namespace Go.Proofs.YtcmjhjnpcogmgaaGreatDoor
open Go.RowKit
def rowStep (a : Int) (x : UInt8) : Int := 10 * (if x.toNat < 48 ∨ 57 < x.toNat then -100000 else a) + x.toNat - 48
def rowF (l : List UInt8) : Int := l.foldl rowStep 0
theorem rowF_snoc (l : List UInt8) (x : UInt8) : rowF (l ++ [x]) = rowStep (rowF l) x := by simp [rowF, List.foldl_append]
theorem rowStep_bad (a : Int) (x : UInt8) (h : x.toNat < 48 ∨ 57 < x.toNat) : rowStep a x = 10 * (-100000) + x.toNat - 48 := by unfold rowStep; rw [if_pos h]
theorem rowStep_ok (a : Int) (x : UInt8) (h1 : 48 ≤ x.toNat) (h2 : x.toNat ≤ 57) : rowStep a x = 10 * a + x.toNat - 48 := by unfold rowStep; rw [if_neg zq17]
theorem rowStep_bd (a b : Int) (x : UInt8) (h1 : -b ≤ a) (h2 : a ≤ b) (h3 : 100000 ≤ b) : -(10 * b + 300) ≤ rowStep a x ∧ rowStep a x ≤ 10 * b + 300 := by
 have := x.toNat_lt
 unfold rowStep
 split <;> omega
theorem rowF_bd : ∀ (l : List UInt8), l.length ≤ 4 → -1100000000 ≤ rowF l ∧ rowF l ≤ 1100000000
 | [], _ => by simp [rowF]
 | [a], _ => by
  have := rowStep_bd 0 100000 a zq17 zq17 zq17
  simp only [rowF, List.foldl]; omega
 | [a, b], _ => by
  have h1 := rowStep_bd 0 100000 a zq17 zq17 zq17
  have h2 := rowStep_bd _ _ b h1.1 h1.2 zq17
  simp only [rowF, List.foldl]; omega
 | [a, b, c], _ => by
  have h1 := rowStep_bd 0 100000 a zq17 zq17 zq17
  have h2 := rowStep_bd _ _ b h1.1 h1.2 zq17
  have h3 := rowStep_bd _ _ c h2.1 h2.2 zq17
  simp only [rowF, List.foldl]; omega
 | [a, b, c, d], _ => by
  have h1 := rowStep_bd 0 100000 a zq17 zq17 zq17
  have h2 := rowStep_bd _ _ b h1.1 h1.2 zq17
  have h3 := rowStep_bd _ _ c h2.1 h2.2 zq17
  have h4 := rowStep_bd _ _ d h3.1 h3.2 zq17
  simp only [rowF, List.foldl]; omega
 | _ :: _ :: _ :: _ :: _ :: _, h => by simp at h
theorem rowF_dec (r : Nat) : rowF (Lib.decDigits r) = r := by
 induction r using Nat.strongRecOn with
 | _ r ih =>
  by_cases h : r < 10
  ·have e := ofn (n := 48 + r) zq17
   rw [Lib.decDigits_one h]
   show rowStep 0 _ = _
   rw [rowStep_ok _ _ zq17 zq17, e]; omega
  ·have e := ofn (n := 48 + r % 10) zq17
   rw [Lib.decDigits, dif_neg h, rowF_snoc, ih _ zq17, rowStep_ok _ _ zq17 zq17, e]; omega
def rowO (s : ByteArray) (n : Nat) : ByteArray := s.extract n s.size
theorem rowO_list (s : ByteArray) (n : Nat) : (rowO s n).data.toList = s.data.toList.drop n := by
 unfold rowO
 rw [ByteArray.data_extract, Array.toList_extract, List.extract_eq_take_drop, List.take_of_length_le (by simp)]
theorem rowO_size (s : ByteArray) (n : Nat) : (rowO s n).size = s.size - n := by
 have h := congrArg List.length (rowO_list s n)
 simpa using h
theorem size_list (s : ByteArray) : s.size = s.data.toList.length := by simp
theorem name_cut {r k : Int} {s : ByteArray} (hm : mayC r k = true) (h : nameS r k = s) : s.size = (colS k).size + (digS r).size ∧ s.extract 0 (colS k).size = colS k ∧ rowO s (colS k).size = digS r := by
 have e : s.data.toList = (colS k).data.toList ++ (digS r).data.toList := by rw [← h, nameS_t hm]; simp
 refine ⟨by rw [size_list s, e, List.length_append, ← size_list, ← size_list], bytes_ext ?_, bytes_ext ?_⟩
 ·rw [ByteArray.data_extract, Array.toList_extract, List.extract_eq_take_drop, e, Nat.sub_zero, List.drop_zero, List.take_left' (size_list _).symm]
 ·rw [rowO_list, e, List.drop_left' (size_list _).symm]
theorem digS_pos (r : Int) (h1 : 1 ≤ r) (h2 : r ≤ 4096) : 1 ≤ (digS r).size ∧ (digS r).size ≤ 4 := by
 have := dec_len r.toNat zq17 zq17
 rw [size_list]
 exact this
theorem name_row {r k : Int} {s : ByteArray} (hm : mayC r k = true) (h : nameS r k = s) : rowF (rowO s (colS k).size).data.toList = r := by
 have k1 := mayC_is hm
 rw [(name_cut hm h).2.2]
 show rowF (Lib.decDigits r.toNat) = r
 rw [rowF_dec]; omega
def NoCol (s : ByteArray) (k : Nat) : Prop := ∀ r c : Int, mayC r c = true → nameS r c = s → (k : Int) ≤ c
theorem NoCol.one (s : ByteArray) : NoCol s 1 := fun r c h _ => by have := mayC_is h; omega
theorem NoCol.next {s : ByteArray} {k : Nat} (h : NoCol s k) (hk : ∀ r : Int, mayC r (k : Int) = true → nameS r (k : Int) ≠ s) : NoCol s (k + 1) := fun r c hm e => by
 have h1 := h r c hm e
 by_cases hc : c = k
 ·subst hc; exact absurd e (hk r hm)
 ·omega
theorem NoCol.a {s : ByteArray} {k : Nat} (h : NoCol s k) (ht : s.size ≤ (colS (k : Int)).size) : NoCol s (k + 1) := h.next fun r hm e => by
 have k1 := mayC_is hm
 have := (name_cut hm e).1
 have := digS_pos r k1.1 k1.2.1
 omega
theorem NoCol.b {s : ByteArray} {k : Nat} (h : NoCol s k) (ht : (colS (k : Int)).size + 4 < s.size) : NoCol s (k + 1) := h.next fun r hm e => by
 have k1 := mayC_is hm
 have := (name_cut hm e).1
 have := digS_pos r k1.1 k1.2.1
 omega
theorem NoCol.c {s : ByteArray} {k : Nat} (h : NoCol s k) (ht : s.extract 0 (colS (k : Int)).size ≠ colS (k : Int)) : NoCol s (k + 1) := h.next fun r hm e => ht (name_cut hm e).2.1
theorem NoCol.d {s : ByteArray} {k : Nat} (h : NoCol s k) (ht : nameS (rowF (rowO s (colS (k : Int)).size).data.toList) (k : Int) ≠ s) : NoCol s (k + 1) := h.next fun r hm e => by
 rw [name_row hm e] at ht
 exact ht e
theorem NoCol.stop {s : ByteArray} (h : NoCol s 257) : pO s = none := by
 cases hO : pO s with
 | none => rfl
 | some x =>
  have hb : pB s = true := by unfold pB; rw [hO]; rfl
  have k := name_p hb
  have k1 := h _ _ k.2 k.1
  have k2 := mayC_is k.2
  omega
theorem name_found {s : ByteArray} {r c : Int} (hs : 0 < s.size) (h : nameS r c = s) : pR s = r ∧ pC s = c ∧ pB s = true := by
 cases hm : mayC r c
 ·rw [nameS_f hm] at h; subst h; exact absurd hs zq16
 ·subst h; exact ⟨pR_name hm, pC_name hm, by rw [pB_name, hm]⟩
theorem beq_f {a b : ByteArray} (h : a ≠ b) : (a == b) = false := by
 rw [beq_toListBytes]
 have h' : ¬ a.toList = b.toList := fun k => h (by
  rw [ByteArray.toList_eq, ByteArray.toList_eq] at k
  exact bytes_ext k)
 simpa using h'
theorem teq_t {a b : ByteArray} (h : a = b) : (a.toList == b.toList) = true := by subst h; simp
theorem teq_f {a b : ByteArray} (h : a ≠ b) : (a.toList == b.toList) = false := by rw [← beq_toListBytes]; exact beq_f h
end Go.Proofs.YtcmjhjnpcogmgaaGreatDoor
namespace Go.Proofs.YtcmjhjnpcogmgaaGreatDoor
open Go.RowKit
theorem rparse_any (s : ByteArray) (w : World) (hs : s.size ≤ maxLen) : Calls Tryz.prog 74 #[.string s] w fun e w' => e = .returned (.tuple #[.agg #[.int .i64 (pR s), .int .i64 (pC s)], .bool (pB s)]) ∧ Below w.heap.size w w' := by
 unfold maxLen at hs
 go_enter Tryz.func74, Tryz.ntmps74
 go_wp2
 go_loopw [3, 4] (fun v x w' => ∃ k : Nat, v = .bool false ∧ x = .int .i64 k ∧ 1 ≤ k ∧ k ≤ 257 ∧ NoCol s k ∧ Below w.heap.size w w' ∧ Own w' w.heap.size #[.int .i64 0, .int .i64 0]) (fun _ x _ => 257 - (intOf x).toNat)
 case atStart => exact ⟨1, rfl, rfl, zq17, zq17, NoCol.one s, bal _ _, Own.new _ _ _⟩
 case round =>
  obtain ⟨k, rfl, rfl, hk1, hk2, hN, hB, o0⟩ := hrel
  have c0 := o0.cell
  have f0 := o0.fro
  have l0 := o0.lt
  by_cases hk : k ≤ 256
  ·have hk' : (k : Int) ≤ 256 := by omega
   have hn := colS_size (k : Int)
   by_cases ta : s.size ≤ (colS (k : Int)).size
   ·have ta' : (s.size : Int) ≤ ((colS (k : Int)).size : Int) := by omega
    go_wp2_with (go_at_call 109; refine (rcol_any _ _ zq17 zq17).mono ?_; rintro e w1 ⟨rfl, hb⟩; have hB1 := bux w zq2 hb; have o1 : Own w1 (w.heap.size) #[.int .i64 0, .int .i64 0] := Own.keep zq5 hb; have c1 := o1.cell; have f1 := o1.fro; have l1 := o1.lt)
    exact ⟨⟨k + 1, rfl, by go_num, zq17, zq17, hN.a ta, hB1, o1⟩, by simp [intOf]; omega⟩
   ·have ta' : ¬ (s.size : Int) ≤ ((colS (k : Int)).size : Int) := by omega
    have ta2 : decide ((s.size : Int) ≤ ((colS (k : Int)).size : Int)) = false := by simpa using ta
    by_cases tb : (colS (k : Int)).size + 4 < s.size
    ·have tb' : ((colS (k : Int)).size : Int) + 4 < (s.size : Int) := by omega
     go_wp2_with (go_at_call 109; refine (rcol_any _ _ zq17 zq17).mono ?_; rintro e w1 ⟨rfl, hb⟩; have hB1 := bux w zq2 hb; have o1 : Own w1 (w.heap.size) #[.int .i64 0, .int .i64 0] := Own.keep zq5 hb; have c1 := o1.cell; have f1 := o1.fro; have l1 := o1.lt)
     exact ⟨⟨k + 1, rfl, by go_num, zq17, zq17, hN.b tb, hB1, o1⟩, by simp [intOf]; omega⟩
    ·have tb' : (s.size : Int) ≤ ((colS (k : Int)).size : Int) + 4 := by omega
     have tb2 : decide (((colS (k : Int)).size : Int) + 4 < (s.size : Int)) = false := by simp; omega
     by_cases tc : s.extract 0 (colS (k : Int)).size = colS (k : Int)
     ·have tc2 := teq_t tc
      have TC : Hid (s.extract 0 (colS (k : Int)).size = colS (k : Int)) := tc
      clear tc
      go_wp2_with (go_at_call 109; refine (rcol_any _ _ zq17 zq17).mono ?_; rintro e w1 ⟨rfl, hb⟩; have hB1 := bux w zq2 hb; have o1 : Own w1 (w.heap.size) #[.int .i64 0, .int .i64 0] := Own.keep zq5 hb; have c1 := o1.cell; have f1 := o1.fro; have l1 := o1.lt)
      obtain ⟨q, hQ⟩ : ∃ q, rowO s (colS (k : Int)).size = q := ⟨_, rfl⟩
      have q4 : q.size ≤ 4 := by rw [← hQ, rowO_size]; omega
      have e : s.extract (colS (k : Int)).size s.size = q := hQ
      rw [e]
      have HQ : Hid (rowO s (colS (k : Int)).size = q) := hQ
      clear e hQ
      go_loop [6, 8] (fun a b => ∃ i : Nat, i ≤ q.size ∧ a = .int .i64 (rowF (q.data.toList.take i)) ∧ b = .int .i64 i) (fun _ b => q.size - (intOf b).toNat)
      case atStart => exact ⟨0, zq17, rfl, rfl⟩
      case round =>
       obtain ⟨i, hi, rfl, rfl⟩ := hrel
       have hbd := rowF_bd (q.data.toList.take i) (by simp; omega)
       by_cases hlt : i < q.size
       ·have hsn : rowF (q.data.toList.take (i + 1)) = rowStep (rowF (q.data.toList.take i)) q[i] := by
         rw [← rowF_snoc, List.take_succ_eq_append_getElem (by simpa using hlt)]; rfl
        have HS : Hid (rowF (q.data.toList.take (i + 1)) = rowStep (rowF (q.data.toList.take i)) q[i]) := hsn
        clear hsn
        have hx := q[i].toNat_lt
        by_cases hx1 : q[i].toNat < 48
        ·have hx1' : (q[i].toNat : Int) < 48 := by omega
         go_wp2
         all_goals exact ⟨⟨i + 1, zq17, by rw [HS.out, rowStep_bad _ _ zq17]; go_num, by go_num⟩, by simp [intOf]; omega⟩
        ·have hx1' : decide ((q[i].toNat : Int) < 48) = false := by simp; omega
         by_cases hx2 : 57 < q[i].toNat
         ·have hx2' : 57 < (q[i].toNat : Int) := by omega
          go_wp2
          all_goals exact ⟨⟨i + 1, zq17, by rw [HS.out, rowStep_bad _ _ zq17]; go_num, by go_num⟩, by simp [intOf]; omega⟩
         ·have hx2' : (q[i].toNat : Int) ≤ 57 := by omega
          have hx3 : 48 ≤ (q[i].toNat : Int) := by omega
          go_wp2
          all_goals exact ⟨⟨i + 1, zq17, by rw [HS.out, rowStep_ok _ _ zq17 zq17], by go_num⟩, by simp [intOf]; omega⟩
       ·have hall : q.data.toList.take i = q.data.toList := List.take_of_length_le (by simp; omega)
        rw [hall] at hbd ⊢
        clear hall
        by_cases hf : nameS (rowF q.data.toList) (k : Int) = s
        ·have hf2 := teq_t hf
         have HF : Hid (nameS (rowF q.data.toList) (k : Int) = s) := hf
         clear hf
         go_wp2_with (go_at_call 110; refine (rname_any _ _ _).mono ?_; rintro e w2 ⟨rfl, hb⟩; have hB2 := bux w zq2 hb; have p0 : Own w2 (w.heap.size) #[.int .i64 0, .int .i64 0] := Own.keep zq5 hb; have d0 := p0.cell; have g0 := p0.fro; have m0 := p0.lt; have p1 : Own w2 (w1.heap.size) #[.int .i64 (rowF q.data.toList), .int .i64 ((k : Int))] := Own.keep zq5 hb; have d1 := p1.cell; have g1 := p1.fro; have m1 := p1.lt)
         all_goals exact bodyPost_ret (v := .tuple #[.agg #[.int .i64 (rowF q.data.toList), .int .i64 k], .bool true]) (by simp [results, Tryz.results74, go_sem, d0, g0]) rfl ⟨by have z := name_found zq17 HF.out; rw [z.1, z.2.1, z.2.2], zq2⟩
        ·have hf2 := teq_f hf
         have hd : NoCol s (k + 1) := hN.d (by rw [HQ.out]; exact hf)
         clear hf
         go_wp2_with (go_at_call 110; refine (rname_any _ _ _).mono ?_; rintro e w2 ⟨rfl, hb⟩; have hB2 := bux w zq2 hb; have p0 : Own w2 (w.heap.size) #[.int .i64 0, .int .i64 0] := Own.keep zq5 hb; have d0 := p0.cell; have g0 := p0.fro; have m0 := p0.lt; have p1 : Own w2 (w1.heap.size) #[.int .i64 (rowF q.data.toList), .int .i64 ((k : Int))] := Own.keep zq5 hb; have d1 := p1.cell; have g1 := p1.fro; have m1 := p1.lt)
         all_goals exact ⟨⟨k + 1, rfl, by go_num, zq17, zq17, hd, hB2, p0⟩, by simp [intOf]; omega⟩
     ·have tc2 := teq_f tc
      go_wp2_with (go_at_call 109; refine (rcol_any _ _ zq17 zq17).mono ?_; rintro e w1 ⟨rfl, hb⟩; have hB1 := bux w zq2 hb; have o1 : Own w1 (w.heap.size) #[.int .i64 0, .int .i64 0] := Own.keep zq5 hb; have c1 := o1.cell; have f1 := o1.fro; have l1 := o1.lt)
      exact ⟨⟨k + 1, rfl, by go_num, zq17, zq17, hN.c tc, hB1, o1⟩, by simp [intOf]; omega⟩
  ·obtain rfl : k = 257 := by omega
   have hO := hN.stop
   go_wp2
   all_goals exact bodyPost_ret (v := .tuple #[.agg #[.int .i64 0, .int .i64 0], .bool false]) (by simp [results, Tryz.results74, go_sem, c0, f0]) rfl ⟨by rw [(pN hO).1, (pN hO).2.1, (pN hO).2.2], zq2⟩
end Go.Proofs.YtcmjhjnpcogmgaaGreatDoor
namespace Go.Proofs.YtcmjhjnpcogmgaaGreatDoor
open Go.RowKit
theorem rmayR1 (t l b r : Int) (w : World) (h1 : mayC t l = false) : Calls Tryz.prog 108 #[(.agg #[.int .i64 (t), .int .i64 (l), .int .i64 (b), .int .i64 (r)])] w fun e w' => e = .returned (.bool false) ∧ Below w.heap.size w w' := by
 go_enter Tryz.func108, Tryz.ntmps108
 go_wp2_with (go_at_call 149; refine (rmay_any _ _ _).mono ?_; rintro e w1 ⟨rfl, hb⟩; have hB := bux w zq2 hb; have o0 : Own w1 (w.heap.size) #[.int .i64 (t), .int .i64 (l), .int .i64 (b), .int .i64 (r)] := Own.keep zq5 hb; have c0 := o0.cell; have f0 := o0.fro; have l0 := o0.lt)
 all_goals go_ret
 all_goals exact ⟨rfl, zq2⟩
theorem rmayR2 (t l b r : Int) (w : World) (h1 : mayC t l = true) (h2 : mayC b r = false) : Calls Tryz.prog 108 #[(.agg #[.int .i64 (t), .int .i64 (l), .int .i64 (b), .int .i64 (r)])] w fun e w' => e = .returned (.bool false) ∧ Below w.heap.size w w' := by
 go_enter Tryz.func108, Tryz.ntmps108
 go_wp2_with (go_at_call 149; refine (rmay_any _ _ _).mono ?_; rintro e w1 ⟨rfl, hb⟩; have hB := bux w zq2 hb; have o0 : Own w1 (w.heap.size) #[.int .i64 (t), .int .i64 (l), .int .i64 (b), .int .i64 (r)] := Own.keep zq5 hb; have c0 := o0.cell; have f0 := o0.fro; have l0 := o0.lt)
 all_goals go_ret
 all_goals exact ⟨rfl, zq2⟩
theorem rmayR3 (t l b r : Int) (w : World) (h1 : mayC t l = true) (h2 : mayC b r = true) (h3 : decide (t ≤ b) = false) : Calls Tryz.prog 108 #[(.agg #[.int .i64 (t), .int .i64 (l), .int .i64 (b), .int .i64 (r)])] w fun e w' => e = .returned (.bool false) ∧ Below w.heap.size w w' := by
 go_enter Tryz.func108, Tryz.ntmps108
 go_wp2_with (go_at_call 149; refine (rmay_any _ _ _).mono ?_; rintro e w1 ⟨rfl, hb⟩; have hB := bux w zq2 hb; have o0 : Own w1 (w.heap.size) #[.int .i64 (t), .int .i64 (l), .int .i64 (b), .int .i64 (r)] := Own.keep zq5 hb; have c0 := o0.cell; have f0 := o0.fro; have l0 := o0.lt)
 all_goals go_ret
 all_goals exact ⟨rfl, zq2⟩
theorem rmayR4 (t l b r : Int) (w : World) (h1 : mayC t l = true) (h2 : mayC b r = true) (h3 : t ≤ b) : Calls Tryz.prog 108 #[(.agg #[.int .i64 (t), .int .i64 (l), .int .i64 (b), .int .i64 (r)])] w fun e w' => e = .returned (.bool (decide (l ≤ r))) ∧ Below w.heap.size w w' := by
 go_enter Tryz.func108, Tryz.ntmps108
 go_wp2_with (go_at_call 149; refine (rmay_any _ _ _).mono ?_; rintro e w1 ⟨rfl, hb⟩; have hB := bux w zq2 hb; have o0 : Own w1 (w.heap.size) #[.int .i64 (t), .int .i64 (l), .int .i64 (b), .int .i64 (r)] := Own.keep zq5 hb; have c0 := o0.cell; have f0 := o0.fro; have l0 := o0.lt)
 all_goals go_ret
 all_goals exact ⟨rfl, zq2⟩
theorem rmayR_any (t l b r : Int) (w : World) : Calls Tryz.prog 108 #[(.agg #[.int .i64 (t), .int .i64 (l), .int .i64 (b), .int .i64 (r)])] w fun e w' => e = .returned (.bool (mayR t l b r)) ∧ Below w.heap.size w w' := by
 cases h1 : mayC t l
 ·rw [mayR_no1 h1]; exact rmayR1 t l b r w h1
 cases h2 : mayC b r
 ·rw [mayR_no2 h2]; exact rmayR2 t l b r w h1 h2
 by_cases h3 : t ≤ b
 ·rw [mayR_yes h1 h2 h3]; exact rmayR4 t l b r w h1 h2 h3
 ·rw [mayR_no3 h3]; exact rmayR3 t l b r w h1 h2 (by simpa using h3)
end Go.Proofs.YtcmjhjnpcogmgaaGreatDoor
namespace Go.Proofs.YtcmjhjnpcogmgaaGreatDoor
open Go.RowKit
def NoPt (s : ByteArray) (i : Nat) : Prop := ∀ x ∈ s.data.toList.take i, x ≠ 58
theorem NoPt.next {s : ByteArray} {i : Nat} (h : NoPt s i) (hi : i < s.size) (hx : s[i].toNat ≠ 58) : NoPt s (i + 1) := by
 intro x hx'
 rw [List.take_succ_eq_append_getElem (by simpa using hi)] at hx'
 rcases List.mem_append.1 hx' with k | k
 ·exact h x k
 ·rw [List.mem_singleton] at k
  subst k
  intro e
  exact hx (congrArg UInt8.toNat e)
theorem NoPt.at {s : ByteArray} {i : Nat} (h : NoPt s i) (hi : i < s.size) (hx : s[i].toNat = 58) : ptAt s = i := by
 have h2 : s.data.toList[i]'(by simpa using hi) = 58 := by
  apply UInt8.toNat_inj.1; exact hx
 have h3 : s.data.toList.drop i = 58 :: s.data.toList.drop (i + 1) := by rw [List.drop_eq_getElem_cons (by simpa using hi), h2]
 have e : s.data.toList.take i ++ 58 :: s.data.toList.drop (i + 1) = s.data.toList := by rw [← h3, List.take_append_drop]
 have k := idx_app (s.data.toList.take i) (s.data.toList.drop (i + 1)) h
 rw [e] at k
 unfold ptAt
 rw [k]
 simp; omega
theorem NoPt.none {s : ByteArray} {i : Nat} (h : NoPt s i) (hi : ¬ i < s.size) : ¬ 0 ≤ ptAt s := by
 intro hp
 have hlt := ptAt_lt s hp
 have e : Lib.indexByte s.data.toList 58 = ((ptAt s).toNat : Nat) := by show ptAt s = _; omega
 have h1 := (Lib.indexByte_some e).1
 refine h 58 ?_ rfl
 rw [List.take_of_length_le (by simp; omega)]
 exact List.mem_of_getElem? h1
theorem cutA_at {s : ByteArray} {i : Nat} (h : ptAt s = i) : cutA s = s.extract 0 i := by unfold cutA; rw [if_pos zq17, h]; simp
theorem cutB_at {s : ByteArray} {i : Nat} (h : ptAt s = i) : cutB s = s.extract (i + 1) s.size := by unfold cutB; rw [if_pos zq17, h]; simp
theorem cut_sizes (s : ByteArray) : (cutA s).size ≤ s.size ∧ (cutB s).size ≤ s.size := by
 unfold cutA cutB
 constructor
 ·split
  ·simp; omega
  ·omega
 ·split
  ·simp
  ·exact Nat.zero_le _
theorem qB_none {s : ByteArray} (h : ¬ 0 ≤ ptAt s) : qB s = false := by
 have e : cutB s = ⟨#[]⟩ := by unfold cutB; rw [if_neg h]
 unfold qB
 rw [e, pB_nil]; simp
theorem rprect_any (s : ByteArray) (w : World) (hs : s.size ≤ maxLen) : Calls Tryz.prog 73 #[.string s] w fun e w' => e = .returned (.tuple #[(.agg #[.int .i64 (qT s), .int .i64 (qL s), .int .i64 (qO s), .int .i64 (qR s)]), .bool (qB s)]) ∧ Below w.heap.size w w' := by
 have hs' : s.size ≤ 9223372036854775807 := by unfold maxLen at hs; omega
 go_enter Tryz.func73, Tryz.ntmps73
 go_wp2
 go_loop [3, 4] (fun v x => ∃ i : Nat, v = .bool false ∧ x = .int .i64 i ∧ i ≤ s.size ∧ NoPt s i) (fun _ x => s.size - (intOf x).toNat)
 case atStart => exact ⟨0, rfl, rfl, zq17, fun x h => by simp at h⟩
 case round =>
  obtain ⟨i, rfl, rfl, hi, hN⟩ := hrel
  by_cases hlt : i < s.size
  ·have hx := s[i].toNat_lt
   by_cases h58 : s[i].toNat = 58
   ·have hp := hN.at hlt h58
    have eA : s.extract 0 i = cutA s := (cutA_at hp).symm
    have eB : s.extract (i + 1) s.size = cutB s := (cutB_at hp).symm
    have h58' : ((s[i].toNat : Int) != 58) = false := by simp [h58]
    clear h58 hp hN
    have hzA : (cutA s).size ≤ maxLen := by have := (cut_sizes s).1; omega
    have hzB : (cutB s).size ≤ maxLen := by have := (cut_sizes s).2; omega
    cases h1 : pB (cutA s)
    ·have HB : Hid (qB s = false) := by show qB s = false; simp [qB, h1]
     go_wp2_with fail
     go_at_call 74
     refine (rparse_any _ _ zq15).mono ?_
     rintro e w1 ⟨rfl, hb⟩
     have hBw1 := bux w zq2 hb
     have o0 : Own w1 (w.heap.size) #[.int .i64 0, .int .i64 0, .int .i64 0, .int .i64 0] := Own.keep zq5 hb
     have c0 := o0.cell
     have f0 := o0.fro
     have l0 := o0.lt
     go_wp2_with fail
     go_at_call 74
     refine (rparse_any _ _ zq15).mono ?_
     rintro e w2 ⟨rfl, hb⟩
     have hBw2 := bux w zq2 hb
     have o0 : Own w2 (w.heap.size) #[.int .i64 0, .int .i64 0, .int .i64 0, .int .i64 0] := Own.keep zq5 hb
     have c0 := o0.cell
     have f0 := o0.fro
     have l0 := o0.lt
     have o1 : Own w2 (w1.heap.size) #[.int .i64 (pR (cutA s)), .int .i64 (pC (cutA s))] := Own.keep zq5 hb
     have c1 := o1.cell
     have f1 := o1.fro
     have l1 := o1.lt
     go_wp2_with (go_at_call 108; refine (rmayR_any _ _ _ _ _).mono ?_; rintro e w3 ⟨rfl, hb⟩; have hB3 := bux w zq2 hb; have o0 : Own w3 (w.heap.size) #[.int .i64 0, .int .i64 0, .int .i64 0, .int .i64 0] := Own.keep zq5 hb; have c0 := o0.cell; have f0 := o0.fro; have l0 := o0.lt; have o1 : Own w3 (w2.heap.size + 1) #[.int .i64 (pR (cutA s)), .int .i64 (pC (cutA s)), .int .i64 (pR (cutB s)), .int .i64 (pC (cutB s))] := Own.keep zq5 hb; have c1 := o1.cell; have f1 := o1.fro; have l1 := o1.lt)
     all_goals exact bodyPost_ret (v := (.tuple #[(.agg #[.int .i64 0, .int .i64 0, .int .i64 0, .int .i64 0]), .bool false])) (by simp [results, Tryz.results73, go_sem, c0, f0, l0]) rfl ⟨by have z := qN HB.out; rw [z.1, z.2.1, z.2.2.1, z.2.2.2, HB.out], zq2⟩
    ·cases h2 : pB (cutB s)
     ·have HB : Hid (qB s = false) := by show qB s = false; simp [qB, h2]
      go_wp2_with fail
      go_at_call 74
      refine (rparse_any _ _ zq15).mono ?_
      rintro e w1 ⟨rfl, hb⟩
      have hBw1 := bux w zq2 hb
      have o0 : Own w1 (w.heap.size) #[.int .i64 0, .int .i64 0, .int .i64 0, .int .i64 0] := Own.keep zq5 hb
      have c0 := o0.cell
      have f0 := o0.fro
      have l0 := o0.lt
      go_wp2_with fail
      go_at_call 74
      refine (rparse_any _ _ zq15).mono ?_
      rintro e w2 ⟨rfl, hb⟩
      have hBw2 := bux w zq2 hb
      have o0 : Own w2 (w.heap.size) #[.int .i64 0, .int .i64 0, .int .i64 0, .int .i64 0] := Own.keep zq5 hb
      have c0 := o0.cell
      have f0 := o0.fro
      have l0 := o0.lt
      have o1 : Own w2 (w1.heap.size) #[.int .i64 (pR (cutA s)), .int .i64 (pC (cutA s))] := Own.keep zq5 hb
      have c1 := o1.cell
      have f1 := o1.fro
      have l1 := o1.lt
      go_wp2_with (go_at_call 108; refine (rmayR_any _ _ _ _ _).mono ?_; rintro e w3 ⟨rfl, hb⟩; have hB3 := bux w zq2 hb; have o0 : Own w3 (w.heap.size) #[.int .i64 0, .int .i64 0, .int .i64 0, .int .i64 0] := Own.keep zq5 hb; have c0 := o0.cell; have f0 := o0.fro; have l0 := o0.lt; have o1 : Own w3 (w2.heap.size + 1) #[.int .i64 (pR (cutA s)), .int .i64 (pC (cutA s)), .int .i64 (pR (cutB s)), .int .i64 (pC (cutB s))] := Own.keep zq5 hb; have c1 := o1.cell; have f1 := o1.fro; have l1 := o1.lt)
      all_goals exact bodyPost_ret (v := (.tuple #[(.agg #[.int .i64 0, .int .i64 0, .int .i64 0, .int .i64 0]), .bool false])) (by simp [results, Tryz.results73, go_sem, c0, f0, l0]) rfl ⟨by have z := qN HB.out; rw [z.1, z.2.1, z.2.2.1, z.2.2.2, HB.out], zq2⟩
     ·cases h3 : mayR (pR (cutA s)) (pC (cutA s)) (pR (cutB s)) (pC (cutB s))
      ·have HB : Hid (qB s = false) := by show qB s = false; simp [qB, h3]
       go_wp2_with fail
       go_at_call 74
       refine (rparse_any _ _ zq15).mono ?_
       rintro e w1 ⟨rfl, hb⟩
       have hBw1 := bux w zq2 hb
       have o0 : Own w1 (w.heap.size) #[.int .i64 0, .int .i64 0, .int .i64 0, .int .i64 0] := Own.keep zq5 hb
       have c0 := o0.cell
       have f0 := o0.fro
       have l0 := o0.lt
       go_wp2_with fail
       go_at_call 74
       refine (rparse_any _ _ zq15).mono ?_
       rintro e w2 ⟨rfl, hb⟩
       have hBw2 := bux w zq2 hb
       have o0 : Own w2 (w.heap.size) #[.int .i64 0, .int .i64 0, .int .i64 0, .int .i64 0] := Own.keep zq5 hb
       have c0 := o0.cell
       have f0 := o0.fro
       have l0 := o0.lt
       have o1 : Own w2 (w1.heap.size) #[.int .i64 (pR (cutA s)), .int .i64 (pC (cutA s))] := Own.keep zq5 hb
       have c1 := o1.cell
       have f1 := o1.fro
       have l1 := o1.lt
       go_wp2_with (go_at_call 108; refine (rmayR_any _ _ _ _ _).mono ?_; rintro e w3 ⟨rfl, hb⟩; have hB3 := bux w zq2 hb; have o0 : Own w3 (w.heap.size) #[.int .i64 0, .int .i64 0, .int .i64 0, .int .i64 0] := Own.keep zq5 hb; have c0 := o0.cell; have f0 := o0.fro; have l0 := o0.lt; have o1 : Own w3 (w2.heap.size + 1) #[.int .i64 (pR (cutA s)), .int .i64 (pC (cutA s)), .int .i64 (pR (cutB s)), .int .i64 (pC (cutB s))] := Own.keep zq5 hb; have c1 := o1.cell; have f1 := o1.fro; have l1 := o1.lt)
       all_goals exact bodyPost_ret (v := (.tuple #[(.agg #[.int .i64 0, .int .i64 0, .int .i64 0, .int .i64 0]), .bool false])) (by simp [results, Tryz.results73, go_sem, c0, f0, l0]) rfl ⟨by have z := qN HB.out; rw [z.1, z.2.1, z.2.2.1, z.2.2.2, HB.out], zq2⟩
      ·have HB : Hid (qB s = true) := by show qB s = true; simp [qB, h1, h2, h3]
       go_wp2_with fail
       go_at_call 74
       refine (rparse_any _ _ zq15).mono ?_
       rintro e w1 ⟨rfl, hb⟩
       have hBw1 := bux w zq2 hb
       have o0 : Own w1 (w.heap.size) #[.int .i64 0, .int .i64 0, .int .i64 0, .int .i64 0] := Own.keep zq5 hb
       have c0 := o0.cell
       have f0 := o0.fro
       have l0 := o0.lt
       go_wp2_with fail
       go_at_call 74
       refine (rparse_any _ _ zq15).mono ?_
       rintro e w2 ⟨rfl, hb⟩
       have hBw2 := bux w zq2 hb
       have o0 : Own w2 (w.heap.size) #[.int .i64 0, .int .i64 0, .int .i64 0, .int .i64 0] := Own.keep zq5 hb
       have c0 := o0.cell
       have f0 := o0.fro
       have l0 := o0.lt
       have o1 : Own w2 (w1.heap.size) #[.int .i64 (pR (cutA s)), .int .i64 (pC (cutA s))] := Own.keep zq5 hb
       have c1 := o1.cell
       have f1 := o1.fro
       have l1 := o1.lt
       go_wp2_with (go_at_call 108; refine (rmayR_any _ _ _ _ _).mono ?_; rintro e w3 ⟨rfl, hb⟩; have hB3 := bux w zq2 hb; have o0 : Own w3 (w.heap.size) #[.int .i64 0, .int .i64 0, .int .i64 0, .int .i64 0] := Own.keep zq5 hb; have c0 := o0.cell; have f0 := o0.fro; have l0 := o0.lt; have o1 : Own w3 (w2.heap.size + 1) #[.int .i64 (pR (cutA s)), .int .i64 (pC (cutA s)), .int .i64 (pR (cutB s)), .int .i64 (pC (cutB s))] := Own.keep zq5 hb; have c1 := o1.cell; have f1 := o1.fro; have l1 := o1.lt)
       all_goals exact bodyPost_ret (v := (.tuple #[.agg #[.int .i64 (pR (cutA s)), .int .i64 (pC (cutA s)), .int .i64 (pR (cutB s)), .int .i64 (pC (cutB s))], .bool true])) (by simp [results, Tryz.results73, go_sem, c0, f0, l0]) rfl ⟨by have z := qS HB.out; rw [z.1, z.2.1, z.2.2.1, z.2.2.2, HB.out], zq2⟩
   ·have h58' : ((s[i].toNat : Int) != 58) = true := by simp; omega
    go_wp2
    all_goals exact ⟨⟨i + 1, rfl, by go_num, zq17, hN.next hlt h58⟩, by simp [intOf]; omega⟩
  ·have hq := qB_none (hN.none hlt)
   have HB : Hid (qB s = false) := hq
   clear hq
   go_wp2
   all_goals exact bodyPost_ret (v := (.tuple #[(.agg #[.int .i64 0, .int .i64 0, .int .i64 0, .int .i64 0]), .bool false])) (by simp [results, Tryz.results73, go_sem]) rfl ⟨by have z := qN HB.out; rw [z.1, z.2.1, z.2.2.1, z.2.2.2, HB.out], zq2⟩
end Go.Proofs.YtcmjhjnpcogmgaaGreatDoor
