/- The contracts of the document's column and digits: of every column that may be its letters, of every number from 1 on its digits. Nothing is written (an order may be drawn). No condition. · The contract of the document's Name: of every cell its name, of one that may not be the empty text. New memory alone is made. No condition. · Plain facts: what a name is read as, and whose name a text is (cells, rectangles). No program's text is walked here. -/
import Derived.Test.YtaamphdihmghhaaGreatDoorQA1
import Derived.Test.YtaamphdihmghhaaGreatDoorQAM
import Derived.LoopTactic
import Derived.Test.YtaamphdihmghhaaGreatDoorQP3
namespace Go.Proofs.YtaamphdihmghhaaGreatDoor
open Go.RowKit
set_option linter.all false
/-- A column's name, a row's digits. -/
def colS (c : Int) : ByteArray := ⟨(colL c.toNat).toArray⟩
def digS (r : Int) : ByteArray := ⟨(Lib.decDigits r.toNat).toArray⟩
theorem az_fin : ∀ i : Fin 26, (⟨#[65, 66, 67, 68, 69, 70, 71, 72, 73, 74, 75, 76, 77, 78, 79, 80, 81, 82, 83, 84, 85, 86, 87, 88, 89, 90]⟩ : ByteArray).extract i.val (i.val + 1) = ⟨#[UInt8.ofNat (65 + i.val)]⟩ := by decide +kernel
theorem az (a b : Nat) (h : a < 26) (hb : b = a + 1) : (⟨#[65, 66, 67, 68, 69, 70, 71, 72, 73, 74, 75, 76, 77, 78, 79, 80, 81, 82, 83, 84, 85, 86, 87, 88, 89, 90]⟩ : ByteArray).extract a b = ⟨#[UInt8.ofNat (65 + a)]⟩ := by subst hb; exact az_fin ⟨a, h⟩
theorem dz_fin : ∀ i : Fin 10, (⟨#[48, 49, 50, 51, 52, 53, 54, 55, 56, 57]⟩ : ByteArray).extract i.val (i.val + 1) = ⟨#[UInt8.ofNat (48 + i.val)]⟩ := by decide +kernel
theorem dz (a b : Nat) (h : a < 10) (hb : b = a + 1) : (⟨#[48, 49, 50, 51, 52, 53, 54, 55, 56, 57]⟩ : ByteArray).extract a b = ⟨#[UInt8.ofNat (48 + a)]⟩ := by subst hb; exact dz_fin ⟨a, h⟩
theorem app_list (a b : List UInt8) : (⟨a.toArray⟩ : ByteArray) ++ (⟨b.toArray⟩ : ByteArray) = ⟨(a ++ b).toArray⟩ := by
  apply ByteArray.ext
  simp
theorem colS_1 (n : Int) (h1 : 1 ≤ n) (h2 : n ≤ 26) : (⟨#[65, 66, 67, 68, 69, 70, 71, 72, 73, 74, 75, 76, 77, 78, 79, 80, 81, 82, 83, 84, 85, 86, 87, 88, 89, 90]⟩ : ByteArray).extract (n.toNat - 1) n.toNat = colS n := by
  rw [az _ _ (by omega) (by omega)]
  unfold colS colL
  rw [if_neg (by omega), if_pos (by omega), show 65 + (n.toNat - 1) = 64 + n.toNat by omega]
theorem colS_2 (n : Int) (h1 : 26 < n) (h2 : n ≤ 256) : (⟨#[65, 66, 67, 68, 69, 70, 71, 72, 73, 74, 75, 76, 77, 78, 79, 80, 81, 82, 83, 84, 85, 86, 87, 88, 89, 90]⟩ : ByteArray).extract ((n - 27) / 26).toNat ((n - 27) / 26 + 1).toNat ++ (⟨#[65, 66, 67, 68, 69, 70, 71, 72, 73, 74, 75, 76, 77, 78, 79, 80, 81, 82, 83, 84, 85, 86, 87, 88, 89, 90]⟩ : ByteArray).extract ((n - 27) % 26).toNat ((n - 27) % 26 + 1).toNat = colS n := by
  rw [az _ _ (by omega) (by omega), az _ _ (by omega) (by omega)]
  unfold colS colL
  rw [if_neg (by omega), if_neg (by omega)]
  rw [show 65 + ((n - 27) / 26).toNat = 64 + (n.toNat - 1) / 26 by omega, show 65 + ((n - 27) % 26).toNat = 65 + (n.toNat - 1) % 26 by omega]
  exact app_list [_] [_]
theorem row_step (n : Nat) (h : 0 < n) : rowL n = rowL (n / 10) ++ [UInt8.ofNat (48 + n % 10)] := by
  rw [rowL_pos h]
  by_cases k : n < 10
  · rw [Lib.decDigits_one k, show n / 10 = 0 by omega, show n % 10 = n by omega]; rfl
  · rw [Lib.decDigits, dif_neg k, rowL_pos (by omega)]
theorem dig_app (n : Nat) (t : List UInt8) : (⟨#[48, 49, 50, 51, 52, 53, 54, 55, 56, 57]⟩ : ByteArray).extract (n % 10) (n % 10 + 1) ++ (⟨t.toArray⟩ : ByteArray) = ⟨(UInt8.ofNat (48 + n % 10) :: t).toArray⟩ := by
  rw [dz _ _ (by omega) rfl]
  exact app_list [_] t
set_option maxHeartbeats 1000000 in
theorem rcol1 (n : Int) (w : World) (h1 : 1 ≤ n) (h2 : n ≤ 26) : Calls Tryz.prog 61 #[.int .i64 n] w fun e w' => e = .returned (.string (colS n)) ∧ Below w.heap.size w w' := by
  go_enter Tryz.func61, Tryz.ntmps61
  go_wp2
  all_goals go_ret
  all_goals exact ⟨retS (colS_1 n h1 h2), Below.refl _ _⟩
set_option maxHeartbeats 1000000 in
theorem rcol2 (n : Int) (w : World) (h1 : 26 < n) (h2 : n ≤ 256) : Calls Tryz.prog 61 #[.int .i64 n] w fun e w' => e = .returned (.string (colS n)) ∧ Below w.heap.size w w' := by
  go_enter Tryz.func61, Tryz.ntmps61
  go_wp2
  all_goals go_quiet (fail)
  all_goals go_wp2
  all_goals go_ret
  all_goals exact ⟨retS (colS_2 n h1 h2), bdrewN (Below.refl _ _) _⟩
theorem rcol_any (n : Int) (w : World) (h1 : 1 ≤ n) (h2 : n ≤ 256) : Calls Tryz.prog 61 #[.int .i64 n] w fun e w' => e = .returned (.string (colS n)) ∧ Below w.heap.size w w' := by
  by_cases h : n ≤ 26
  · exact rcol1 n w h1 h
  · exact rcol2 n w (by omega) h2
set_option maxHeartbeats 1000000 in
theorem rdig_any (r : Int) (w : World) (h1 : 1 ≤ r) (h2 : r ≤ 4096) : Calls Tryz.prog 80 #[.int .i64 r] w fun e w' => e = .returned (.string (digS r)) ∧ w' = w := by
  go_enter Tryz.func80, Tryz.ntmps80
  go_wp2
  go_loop [0, 3] (fun a b => ∃ (n : Nat) (t : List UInt8), a = .int .i64 n ∧ b = .string ⟨t.toArray⟩ ∧ n ≤ 4096 ∧ rowL n ++ t = Lib.decDigits r.toNat) (fun a _ => (intOf a).toNat)
  case atStart => exact ⟨r.toNat, [], by rw [Int.toNat_of_nonneg (by omega)], rfl, by omega, by rw [rowL_pos (by omega), List.append_nil]⟩
  case round =>
    obtain ⟨n, t, rfl, rfl, hn, ht⟩ := hrel
    by_cases h0 : 0 < n
    · rw [row_step n h0] at ht
      have h0' : (0 : Int) < n := by omega
      have hl : t.length ≤ 4 := by
        have e := congrArg List.length ht
        have := dec_len r.toNat (by omega) (by omega)
        simp at e; omega
      have hq : ¬ (9223372036854775807 < min (n % 10 + 1) 10 - n % 10 + t.length) := by omega
      go_wp2
      all_goals refine ⟨⟨n / 10, UInt8.ofNat (48 + n % 10) :: t, by go_num, by rw [dig_app], by omega, by rw [← ht]; simp⟩, by simp [intOf]; omega⟩
    · obtain rfl : n = 0 := by omega
      go_wp2
      all_goals go_ret
      all_goals exact ⟨by rw [show rowL 0 = [] from rfl, List.nil_append] at ht; rw [ht]; rfl, rfl⟩
end Go.Proofs.YtaamphdihmghhaaGreatDoor
namespace Go.Proofs.YtaamphdihmghhaaGreatDoor
open Go.RowKit
set_option linter.all false
/-- A cell's name. -/
def nameS (r c : Int) : ByteArray := if mayC r c then colS c ++ digS r else ⟨#[]⟩
theorem nameS_t {r c : Int} (h : mayC r c = true) : nameS r c = colS c ++ digS r := by unfold nameS; rw [h]; rfl
theorem nameS_f {r c : Int} (h : mayC r c = false) : nameS r c = ⟨#[]⟩ := by unfold nameS; rw [h]; rfl
theorem colS_size (c : Int) : (colS c).size ≤ 2 := by
  show (colL c.toNat).toArray.size ≤ 2
  unfold colL
  split
  · simp
  · split <;> simp
theorem digS_size (r : Int) (h1 : 1 ≤ r) (h2 : r ≤ 4096) : (digS r).size ≤ 4 := by
  show (Lib.decDigits r.toNat).toArray.size ≤ 4
  have := dec_len r.toNat (by omega) (by omega)
  simp; omega
set_option maxHeartbeats 1000000 in
theorem rname1 (r c : Int) (w : World) (h : mayC r c = false) : Calls Tryz.prog 62 #[(.agg #[.int .i64 (r), .int .i64 (c)])] w fun e w' => e = .returned (.string ⟨#[]⟩) ∧ Below w.heap.size w w' := by
  go_enter Tryz.func62, Tryz.ntmps62
  go_wp2_with (go_at_call 79; refine (rmay_any _ _ _).mono ?_; rintro e w1 ⟨rfl, hb⟩; have hB : Below w.heap.size w w1 := bup (by with_reducible (repeat' first | assumption | exact Below.refl _ _ | refine Below.drew ?_ | refine Below.setCell ?_ (by first | exact Nat.le_refl _ | (simp; done) | (simp; omega) | omega) _ | refine Below.alloc ?_ (by first | exact Nat.le_refl _ | (simp; done) | (simp; omega) | omega) _)) hb; have o0 : Own w1 (w.heap.size) #[.int .i64 (r), .int .i64 (c)] := Own.keep (by with_reducible (repeat' first | assumption | refine Own.drew ?_ | (refine Own.at ?_; first | rfl | (simp; done)) | refine Own.past ?_ _)) hb; have c0 := o0.cell; have f0 := o0.fro; have l0 := o0.lt)
  all_goals go_ret
  all_goals exact ⟨rfl, by with_reducible (repeat' first | assumption | exact Below.refl _ _ | refine Below.drew ?_ | refine Below.setCell ?_ (by first | exact Nat.le_refl _ | (simp; done) | (simp; omega) | omega) _ | refine Below.alloc ?_ (by first | exact Nat.le_refl _ | (simp; done) | (simp; omega) | omega) _)⟩
set_option maxHeartbeats 1000000 in
theorem rname2 (r c : Int) (w : World) (h : mayC r c = true) (k1 : 1 ≤ r) (k2 : r ≤ 4096) (k3 : 1 ≤ c) (k4 : c ≤ 256) (hq : ¬ (9223372036854775807 < (colS c).size + (digS r).size)) : Calls Tryz.prog 62 #[(.agg #[.int .i64 (r), .int .i64 (c)])] w fun e w' => e = .returned (.string (colS c ++ digS r)) ∧ Below w.heap.size w w' := by
  go_enter Tryz.func62, Tryz.ntmps62
  go_wp2_with (go_at_call 79; refine (rmay_any _ _ _).mono ?_; rintro e w1 ⟨rfl, hb⟩; have hB : Below w.heap.size w w1 := bup (by with_reducible (repeat' first | assumption | exact Below.refl _ _ | refine Below.drew ?_ | refine Below.setCell ?_ (by first | exact Nat.le_refl _ | (simp; done) | (simp; omega) | omega) _ | refine Below.alloc ?_ (by first | exact Nat.le_refl _ | (simp; done) | (simp; omega) | omega) _)) hb; have o0 : Own w1 (w.heap.size) #[.int .i64 (r), .int .i64 (c)] := Own.keep (by with_reducible (repeat' first | assumption | refine Own.drew ?_ | (refine Own.at ?_; first | rfl | (simp; done)) | refine Own.past ?_ _)) hb; have c0 := o0.cell; have f0 := o0.fro; have l0 := o0.lt)
  all_goals go_region_held3 (fun w' => w'.cell? ⟨w.heap.size, 0, none⟩ = some (.int .i64 (r)) ∧ w'.cell? ⟨w.heap.size, 1, none⟩ = some (.int .i64 (c))) ((repeat' apply And.intro) <;> (first | (go_keep; done) | (go_simp; done)))
    (first | (go_at_call 61; refine (rcol_any _ _ (by assumption) (by assumption)).mono ?_; rintro e w1 ⟨rfl, hb⟩; have hB : Below w.heap.size w w1 := bup (by with_reducible (repeat' first | assumption | exact Below.refl _ _ | refine Below.drew ?_ | refine Below.setCell ?_ (by first | exact Nat.le_refl _ | (simp; done) | (simp; omega) | omega) _ | refine Below.alloc ?_ (by first | exact Nat.le_refl _ | (simp; done) | (simp; omega) | omega) _)) hb; have o0 : Own w1 (w.heap.size) #[.int .i64 (r), .int .i64 (c)] := Own.keep (by with_reducible (repeat' first | assumption | refine Own.drew ?_ | (refine Own.at ?_; first | rfl | (simp; done)) | refine Own.past ?_ _)) hb; have c0 := o0.cell; have f0 := o0.fro; have l0 := o0.lt) | (go_at_call 80; refine (rdig_any _ _ (by assumption) (by assumption)).mono ?_; rintro e w5 ⟨rfl, rfl⟩))
  all_goals go_wp2
  all_goals go_ret
  all_goals exact ⟨rfl, by with_reducible (repeat' first | assumption | exact Below.refl _ _ | refine Below.drew ?_ | refine Below.setCell ?_ (by first | exact Nat.le_refl _ | (simp; done) | (simp; omega) | omega) _ | refine Below.alloc ?_ (by first | exact Nat.le_refl _ | (simp; done) | (simp; omega) | omega) _)⟩
theorem rname_any (r c : Int) (w : World) : Calls Tryz.prog 62 #[(.agg #[.int .i64 (r), .int .i64 (c)])] w fun e w' => e = .returned (.string (nameS r c)) ∧ Below w.heap.size w w' := by
  cases h : mayC r c
  · rw [nameS_f h]; exact rname1 r c w h
  · obtain ⟨k1, k2, k3, k4⟩ := mayC_is h
    have a := colS_size c
    have b := digS_size r k1 k2
    rw [nameS_t h]; exact rname2 r c w h k1 k2 k3 k4 (by omega)
end Go.Proofs.YtaamphdihmghhaaGreatDoor
namespace Go.Proofs.YtaamphdihmghhaaGreatDoor
open Go.RowKit
set_option linter.all false
theorem bytes_ext {s t : ByteArray} (h : s.data.toList = t.data.toList) : s = t := by
  obtain ⟨⟨x⟩⟩ := s
  obtain ⟨⟨y⟩⟩ := t
  simp at h
  rw [h]
theorem mayN_of {r c : Int} (h : mayC r c = true) : mayN r.toNat c.toNat := by
  have k := mayC_is h
  unfold mayN; omega
theorem mayC_of {r c : Nat} (h : mayN r c) : mayC (r : Int) (c : Int) = true := by
  unfold mayN at h
  exact mayC_t (by omega)
theorem nameS_list {r c : Int} (h : mayC r c = true) : (nameS r c).data.toList = colL c.toNat ++ rowL r.toNat := by
  rw [nameS_t h]
  have k := mayC_is h
  unfold colS digS
  rw [app_list, rowL_pos (by omega)]
theorem pO_name {r c : Int} (h : mayC r c = true) : pO (nameS r c) = some (r.toNat, c.toNat) := by
  unfold pO
  rw [nameS_list h]
  exact pst_name _ _ (mayN_of h)
theorem pO_nil : pO ⟨#[]⟩ = none := by decide
theorem pB_name (r c : Int) : pB (nameS r c) = mayC r c := by
  cases h : mayC r c
  · rw [nameS_f h]; rfl
  · unfold pB; rw [pO_name h]; rfl
theorem pR_name {r c : Int} (h : mayC r c = true) : pR (nameS r c) = r := by
  have k := mayC_is h
  rw [(pS (pO_name h)).1]; omega
theorem pC_name {r c : Int} (h : mayC r c = true) : pC (nameS r c) = c := by
  have k := mayC_is h
  rw [(pS (pO_name h)).2.1]; omega
/-- Whatever is read as a cell is its name. -/
theorem name_p {s : ByteArray} (h : pB s = true) : nameS (pR s) (pC s) = s ∧ mayC (pR s) (pC s) = true := by
  unfold pB at h
  obtain ⟨⟨r, c⟩, hO⟩ := Option.isSome_iff_exists.1 h
  have e := pS hO
  have k := (pst_is s.data.toList r c).1 hO
  have hm : mayC (pR s) (pC s) = true := by rw [e.1, e.2.1]; exact mayC_of k.1
  refine ⟨bytes_ext ?_, hm⟩
  rw [nameS_list hm, e.1, e.2.1]
  simpa using k.2
theorem p_no {s : ByteArray} (h : pB s = false) (r c : Int) (hm : mayC r c = true) : nameS r c ≠ s := by
  intro e
  subst e
  rw [pB_name, hm] at h
  cases h
theorem idx_app : ∀ (a b : List UInt8), (∀ x ∈ a, x ≠ 58) → Lib.indexByte (a ++ 58 :: b) 58 = a.length
  | [], b, _ => by simp [Lib.indexByte]
  | x :: a, b, h => by
    have ih := idx_app a b (fun y hy => h y (List.mem_cons_of_mem _ hy))
    have hx : x ≠ 58 := h x List.mem_cons_self
    simp [Lib.indexByte, hx, ih]
theorem nameS_no58 {r c : Int} (h : mayC r c = true) : ∀ x ∈ (nameS r c).data.toList, x ≠ 58 := by
  intro x hx
  rw [nameS_list h] at hx
  exact name_mem _ _ (mayN_of h) x hx
theorem cut_list (a b : ByteArray) : (a ++ (⟨#[58]⟩ : ByteArray) ++ b).data.toList = a.data.toList ++ 58 :: b.data.toList := by simp
theorem pt_app (a b : ByteArray) (h : ∀ x ∈ a.data.toList, x ≠ 58) : ptAt (a ++ (⟨#[58]⟩ : ByteArray) ++ b) = a.size := by
  unfold ptAt
  rw [cut_list, idx_app _ _ h]; simp
theorem cutA_app (a b : ByteArray) (h : ∀ x ∈ a.data.toList, x ≠ 58) : cutA (a ++ (⟨#[58]⟩ : ByteArray) ++ b) = a := by
  have e := pt_app a b h
  unfold cutA
  rw [if_pos (by rw [e]; omega), e]
  apply bytes_ext
  rw [ByteArray.data_extract, Array.toList_extract, cut_list]
  simp
theorem cutB_app (a b : ByteArray) (h : ∀ x ∈ a.data.toList, x ≠ 58) : cutB (a ++ (⟨#[58]⟩ : ByteArray) ++ b) = b := by
  have e := pt_app a b h
  have h1 : (⟨#[58]⟩ : ByteArray).size = 1 := rfl
  unfold cutB
  rw [if_pos (by rw [e]; omega), e]
  apply bytes_ext
  rw [ByteArray.data_extract, Array.toList_extract, cut_list, show a.data.toList ++ 58 :: b.data.toList = (a.data.toList ++ [58]) ++ b.data.toList by simp]
  simp only [List.extract_eq_take_drop]
  rw [List.drop_left' (by simp), List.take_of_length_le (by simp [h1])]
theorem pB_nil : pB ⟨#[]⟩ = false := by decide
/-- A text that has a colon is what stands around the first one. -/
theorem cut_back (s : ByteArray) (h : 0 ≤ ptAt s) : cutA s ++ (⟨#[58]⟩ : ByteArray) ++ cutB s = s := by
  have hlt := ptAt_lt s h
  have e : Lib.indexByte s.data.toList 58 = ((ptAt s).toNat : Nat) := by show ptAt s = _; omega
  have h1 := (Lib.indexByte_some e).1
  unfold cutA cutB
  rw [if_pos h, if_pos h]
  generalize (ptAt s).toNat = k at *
  apply bytes_ext
  rw [cut_list, ByteArray.data_extract, ByteArray.data_extract, Array.toList_extract, Array.toList_extract]
  obtain ⟨hk, h2⟩ := List.getElem?_eq_some_iff.1 h1
  have h3 : s.data.toList.drop k = 58 :: s.data.toList.drop (k + 1) := by rw [List.drop_eq_getElem_cons hk, h2]
  have h4 : s.data.toList.length = s.size := by simp
  simp only [List.extract_eq_take_drop, Nat.sub_zero, List.drop_zero]
  rw [List.take_of_length_le (l := s.data.toList.drop (k + 1)) (by simp), ← h3, List.take_append_drop]
end Go.Proofs.YtaamphdihmghhaaGreatDoor
