/- Contracts of lex's readers of a quoted text, of a word and of any piece. New memory alone is made. The conditions: a text of at most 4294967280 bytes; what package value lays (the names), and that a variable of the library holds a number. -/
import Derived.Test.YtaamphdihmghhaaDoorLR
import Derived.Lib.CountLaws
namespace Go.Proofs.YtaamphdihmghhaaDoor
open Go.Shelf Go.RowKit
set_option linter.all false
theorem tExtra : Builder.Extra Tryd.prog Tryd.lays155_ren where
  sizeBuilder := by kernel_rfl
  liesBuilder := by kernel_rfl
  t5 := Tryd.underlying5
  a5 := Tryd.isAgg5
  z5 := Tryd.sizeOf5
  v5 := Tryd.zeroValue5
  infoByte := by kernel_rfl
  cellsByte := by kernel_rfl
  sizeByte := by kernel_rfl
  neB5 := by decide
theorem replace_any (s : ByteArray) (w : World) (hs : s.size < 4294967281) (hM : Mx w) :
    Calls Tryd.prog 35 #[.string s, .string ⟨#[34, 34]⟩, .string ⟨#[34]⟩] w fun e w' => e = .returned (.string (bs (Lib.replaceAll s.data.toList [34, 34] [34]))) ∧ Below w.heap.size w w' := by
  obtain ⟨m, hm⟩ := hM
  exact Any.strings_ReplaceAll Tryd.lays155 tExtra s ⟨#[34, 34]⟩ ⟨#[34]⟩ m w hs hm (by decide) (by
    have h := Lib.count_le s.data.toList [34, 34]
    have e : Lib.countB s ⟨#[34, 34]⟩ = Lib.count s.data.toList [34, 34] := rfl
    rw [e, ← size_len] at *
    show s.size + _ * 1 ≤ _
    omega)
theorem count_any (s : ByteArray) (w : World) : Calls Tryd.prog 34 #[.string s, .string ⟨#[34]⟩] w fun e w' => e = .returned (.int .i64 (Lib.countByte s.data.toList 34)) ∧ Below w.heap.size w w' := by
  have h : Calls Tryd.prog 34 #[.string s, .string ⟨#[34]⟩] w fun e w' => e = .returned (.int .i64 (Lib.countByte s.data.toList 34)) ∧ w' = w := Any.strings_Count_one Tryd.lays138 s 34 w
  exact h.mono fun e w' ⟨he, hw⟩ => ⟨he, by rw [hw]; exact Below.refl _ _⟩
theorem cont_any (s : ByteArray) (w : World) : Calls Tryd.prog 37 #[.string s, .string ⟨#[58]⟩] w fun e w' => e = .returned (.bool (decide (0 ≤ Lib.indexByte s.data.toList 58))) ∧ Below w.heap.size w w' := by
  have h : Calls Tryd.prog 37 #[.string s, .string ⟨#[58]⟩] w fun e w' => e = .returned (.bool (decide (0 ≤ Lib.indexByte s.data.toList 58))) ∧ w' = w := Any.strings_Contains_one Tryd.lays144 s 58 w
  exact h.mono fun e w' ⟨he, hw⟩ => ⟨he, by rw [hw]; exact Below.refl _ _⟩
theorem even_two {l : List UInt8} (h : bgn l [34] = true) (he : Lib.countByte l 34 % 2 = 0) : 2 ≤ l.length := by
  have h1 : 1 ≤ Lib.countByte l 34 := by
    cases l with
    | nil => simp [bgn] at h
    | cons c t =>
      have hc : c = 34 := by simpa [bgn] using h
      subst hc; unfold Lib.countByte; rw [List.count_cons_self]; omega
  have h2 : Lib.countByte l 34 ≤ l.length := List.count_le_length
  omega
theorem ext_mid (s : ByteArray) (h : 2 ≤ s.size) : (s.extract 1 (s.size - 1)).data.toList = (s.data.toList.drop 1).take (s.data.toList.length - 2) := by
  rw [ByteArray.data_extract, Array.toList_extract, List.extract_eq_take_drop, ← size_len]; congr 1
theorem rdq_any (s : ByteArray) (w : World) (hs : s.size < 4294967281) (hq : bgn s.data.toList [34] = true) (hM : Mx w) : Calls Tryd.prog 21 #[.string s] w fun e w' => e = .returned (.agg #[.int .i64 (rdQ s.data.toList).kind, .int .i64 (rdQ s.data.toList).at', .int .i64 (rdQ s.data.toList).num, .string (rdQ s.data.toList).str, .int .i64 (rdQ s.data.toList).c0, .int .i64 (rdQ s.data.toList).c1, .int .i64 (rdQ s.data.toList).r0, .int .i64 (rdQ s.data.toList).r1, .int .i64 (rdQ s.data.toList).r2, .int .i64 (rdQ s.data.toList).r3, .int .i64 (rdQ s.data.toList).code]) ∧ Below w.heap.size w w' := by
  have HM : Hid (∀ w1, Below w.heap.size w w1 → Mx w1) := fun w1 hb => hM.stays hb
  have hwr := fun w => wrong_any w
  have hc := fun w => count_any s w
  have hcl : Lib.countByte s.data.toList 34 ≤ s.data.toList.length := List.count_le_length
  rw [← size_len] at hcl
  by_cases hev : Lib.countByte s.data.toList 34 % 2 = 0
  · have e : rdQ s.data.toList = tkStr 2 (bs (Lib.replaceAll ((s.data.toList.drop 1).take (s.data.toList.length - 2)) [34, 34] [34])) := by unfold rdQ; rw [if_pos hev]
    have h2 := even_two hq hev
    rw [← size_len] at h2
    rw [e, ← ext_mid s h2]
    clear e hM hq
    have hr : ∀ w, Mx w → _ := fun w hM => replace_any (s.extract 1 (s.size - 1)) w (by rw [ByteArray.size_extract]; omega) hM
    revert hc hcl hev hr
    generalize bs (Lib.replaceAll (s.extract 1 (s.size - 1)).data.toList [34, 34] [34]) = q
    generalize Lib.countByte s.data.toList 34 = n
    intro hc hcl hev hr
    have h2' : (2 : Int) ≤ s.size := by omega
    have e1 : Int.tmod (n : Int) 2 = 0 := by rw [Int.tmod_eq_emod_of_nonneg (by omega)]; omega
    have e2 : ((s.size : Int) - 1).toNat = s.size - 1 := by omega
    go_enter Tryd.func21, Tryd.ntmps21
    go_wp2_with (first | (go_at_call 34; first | (refine (hc _).mono ?_; clear hc; rintro e w1 ⟨rfl, hb⟩; have hB : Below w.heap.size w w1 := bup (by with_reducible (repeat' first | assumption | exact Below.refl _ _ | refine Below.drew ?_ | refine Below.setCell ?_ (by first | exact Nat.le_refl _ | (simp; done) | (simp; omega) | omega) _ | refine Below.alloc ?_ (by first | exact Nat.le_refl _ | (simp; done) | (simp; omega) | omega) _)) hb; have o0 : Own w1 (w.heap.size) #[.int .i64 (0), .int .i64 (0), .int .i64 (0), .string ⟨#[]⟩, .int .i64 (0), .int .i64 (0), .int .i64 (0), .int .i64 (0), .int .i64 (0), .int .i64 (0), .int .i64 (0)] := Own.keep (by with_reducible (repeat' first | assumption | refine Own.drew ?_ | (refine Own.at ?_; first | rfl | (simp; done)) | refine Own.past ?_ _)) hb; have c0 := o0.cell; have f0 := o0.fro; have l0 := o0.lt)) | (go_at_call 35; refine (hr _ (HM.out _ (by assumption))).mono ?_; rintro e w2 ⟨rfl, hb⟩; have hB2 : Below w.heap.size w w2 := bup (by with_reducible (repeat' first | assumption | exact Below.refl _ _ | refine Below.drew ?_ | refine Below.setCell ?_ (by first | exact Nat.le_refl _ | (simp; done) | (simp; omega) | omega) _ | refine Below.alloc ?_ (by first | exact Nat.le_refl _ | (simp; done) | (simp; omega) | omega) _)) hb; have o1 : Own w2 (w.heap.size) #[.int .i64 (0), .int .i64 (0), .int .i64 (0), .string ⟨#[]⟩, .int .i64 (0), .int .i64 (0), .int .i64 (0), .int .i64 (0), .int .i64 (0), .int .i64 (0), .int .i64 (0)] := Own.keep (by with_reducible (repeat' first | assumption | refine Own.drew ?_ | (refine Own.at ?_; first | rfl | (simp; done)) | refine Own.past ?_ _)) hb; have c0 := o1.cell; have f0 := o1.fro; have l0 := o1.lt) | (go_at_call 12; first | (refine (hwr _).mono ?_; clear hwr; rintro e w1 ⟨rfl, hb⟩; have hB : Below w.heap.size w w1 := bup (by with_reducible (repeat' first | assumption | exact Below.refl _ _ | refine Below.drew ?_ | refine Below.setCell ?_ (by first | exact Nat.le_refl _ | (simp; done) | (simp; omega) | omega) _ | refine Below.alloc ?_ (by first | exact Nat.le_refl _ | (simp; done) | (simp; omega) | omega) _)) hb; have o0 : Own w1 (w.heap.size) #[.int .i64 (0), .int .i64 (0), .int .i64 (0), .string ⟨#[]⟩, .int .i64 (0), .int .i64 (0), .int .i64 (0), .int .i64 (0), .int .i64 (0), .int .i64 (0), .int .i64 (0)] := Own.keep (by with_reducible (repeat' first | assumption | refine Own.drew ?_ | (refine Own.at ?_; first | rfl | (simp; done)) | refine Own.past ?_ _)) hb; have c0 := o0.cell; have f0 := o0.fro; have l0 := o0.lt)))
    exact bodyPost_ret (v := (.agg #[.int .i64 (tkStr 2 q).kind, .int .i64 (tkStr 2 q).at', .int .i64 (tkStr 2 q).num, .string (tkStr 2 q).str, .int .i64 (tkStr 2 q).c0, .int .i64 (tkStr 2 q).c1, .int .i64 (tkStr 2 q).r0, .int .i64 (tkStr 2 q).r1, .int .i64 (tkStr 2 q).r2, .int .i64 (tkStr 2 q).r3, .int .i64 (tkStr 2 q).code])) (by simp [results, Tryd.results21, go_sem, c0, f0, l0, tkStr]) rfl ⟨rfl, by with_reducible (repeat' first | assumption | exact Below.refl _ _ | refine Below.drew ?_ | refine Below.setCell ?_ (by first | exact Nat.le_refl _ | (simp; done) | (simp; omega) | omega) _ | refine Below.alloc ?_ (by first | exact Nat.le_refl _ | (simp; done) | (simp; omega) | omega) _)⟩
  · have e : rdQ s.data.toList = tk0 8 := by unfold rdQ; rw [if_neg hev]
    rw [e]
    clear e hM hq
    revert hc hcl hev
    generalize Lib.countByte s.data.toList 34 = n
    intro hc hcl hev
    have e1 : ¬ Int.tmod (n : Int) 2 = 0 := by rw [Int.tmod_eq_emod_of_nonneg (by omega)]; omega
    go_enter Tryd.func21, Tryd.ntmps21
    go_wp2_with (first | (go_at_call 34; first | (refine (hc _).mono ?_; clear hc; rintro e w1 ⟨rfl, hb⟩; have hB : Below w.heap.size w w1 := bup (by with_reducible (repeat' first | assumption | exact Below.refl _ _ | refine Below.drew ?_ | refine Below.setCell ?_ (by first | exact Nat.le_refl _ | (simp; done) | (simp; omega) | omega) _ | refine Below.alloc ?_ (by first | exact Nat.le_refl _ | (simp; done) | (simp; omega) | omega) _)) hb; have o0 : Own w1 (w.heap.size) #[.int .i64 (0), .int .i64 (0), .int .i64 (0), .string ⟨#[]⟩, .int .i64 (0), .int .i64 (0), .int .i64 (0), .int .i64 (0), .int .i64 (0), .int .i64 (0), .int .i64 (0)] := Own.keep (by with_reducible (repeat' first | assumption | refine Own.drew ?_ | (refine Own.at ?_; first | rfl | (simp; done)) | refine Own.past ?_ _)) hb; have c0 := o0.cell; have f0 := o0.fro; have l0 := o0.lt)) | (go_at_call 12; first | (refine (hwr _).mono ?_; clear hwr; rintro e w1 ⟨rfl, hb⟩; have hB : Below w.heap.size w w1 := bup (by with_reducible (repeat' first | assumption | exact Below.refl _ _ | refine Below.drew ?_ | refine Below.setCell ?_ (by first | exact Nat.le_refl _ | (simp; done) | (simp; omega) | omega) _ | refine Below.alloc ?_ (by first | exact Nat.le_refl _ | (simp; done) | (simp; omega) | omega) _)) hb; have o0 : Own w1 (w.heap.size) #[.int .i64 (0), .int .i64 (0), .int .i64 (0), .string ⟨#[]⟩, .int .i64 (0), .int .i64 (0), .int .i64 (0), .int .i64 (0), .int .i64 (0), .int .i64 (0), .int .i64 (0)] := Own.keep (by with_reducible (repeat' first | assumption | refine Own.drew ?_ | (refine Own.at ?_; first | rfl | (simp; done)) | refine Own.past ?_ _)) hb; have c0 := o0.cell; have f0 := o0.fro; have l0 := o0.lt)))
    exact bodyPost_ret (v := (.agg #[.int .i64 (tk0 8).kind, .int .i64 (tk0 8).at', .int .i64 (tk0 8).num, .string (tk0 8).str, .int .i64 (tk0 8).c0, .int .i64 (tk0 8).c1, .int .i64 (tk0 8).r0, .int .i64 (tk0 8).r1, .int .i64 (tk0 8).r2, .int .i64 (tk0 8).r3, .int .i64 (tk0 8).code])) (by simp [results, Tryd.results21, go_sem, c0, f0, l0, tk0]) rfl ⟨rfl, by with_reducible (repeat' first | assumption | exact Below.refl _ _ | refine Below.drew ?_ | refine Below.setCell ?_ (by first | exact Nat.le_refl _ | (simp; done) | (simp; omega) | omega) _ | refine Below.alloc ?_ (by first | exact Nat.le_refl _ | (simp; done) | (simp; omega) | omega) _)⟩
end Go.Proofs.YtaamphdihmghhaaDoor
