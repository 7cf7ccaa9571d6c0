/- How long a text becomes in which another one is replaced; strings.Count, ReplaceAll and texts.replaced. New memory alone is made. The conditions: a text of at most 2^20 bytes; a variable of the library holds a number. -/
import Derived.Test.YtdcfnfapdceenaaGreatDoorTO
import Derived.Lib.SplitLaws
import Derived.Lib.ReplaceLaws
namespace Go.Proofs.YtdcfnfapdceenaaGreatDoor
open Go.Shelf Go.RowKit
set_option linter.all false
theorem cnt_same (s t : ByteArray) (w : World) (hs : s.size ≤ 1048576) (hM : Mx w) (ht : 1 ≤ t.size) : Calls Tryz.prog 99 #[.string s, .string t] w fun e w' => e = .returned (.int .i64 (Lib.countB s t : Nat)) ∧ w' = w := by
  by_cases h : t.size = 1
  · have hl : t.data.toList.length = 1 := (Array.length_toList.trans h)
    obtain ⟨c, hc⟩ : ∃ c, t.data.toList = [c] := by
      match t.data.toList, hl with
      | [c], _ => exact ⟨c, rfl⟩
    have ht2 : t = ⟨#[c]⟩ := ByteArray.ext (by have := congrArg List.toArray hc; simpa using this)
    subst ht2
    have q : Calls Tryz.prog 99 #[.string s, .string ⟨#[c]⟩] w fun e w' => e = .returned (.int .i64 (Lib.countByte s.data.toList c)) ∧ w' = w := Any.strings_Count_one Tryz.lays138 s c w
    have e : Lib.countB s ⟨#[c]⟩ = Lib.countByte s.data.toList c := Lib.count_one c s.data.toList
    rw [e]
    exact q
  · obtain ⟨m, hm⟩ := hM
    exact Any.strings_Count Tryz.lays138 s t m w (by omega) hm (by omega)
def repl (s t u : ByteArray) : ByteArray := ⟨(Lib.replaceAll s.data.toList t.data.toList u.data.toList).toArray⟩
theorem rpl_any (s t u : ByteArray) (w : World) (hs : s.size ≤ 1048576) (hM : Mx w) (ht : 1 ≤ t.size) (hl : s.size + Lib.countB s t * u.size ≤ 140737488355328) : Calls Tryz.prog 100 #[.string s, .string t, .string u] w fun e w' => e = .returned (.string (repl s t u)) ∧ Below w.heap.size w w' := by
  obtain ⟨m, hm⟩ := hM
  exact Any.strings_ReplaceAll Tryz.lays155 tExtra155 s t u m w (by omega) hm ht hl
theorem idx_room {s old : List UInt8} {i : Nat} (ho : old ≠ []) (h : Lib.index s old = i) : i + old.length ≤ s.length := by
  rcases first_or (fun i => Lib.occAt s old i) (s.length + 1) with h1 | ⟨j, h1, h2, h3⟩
  · have := Lib.index_none (fun j hj => h1 j (by omega)); omega
  · have e := Lib.index_first (by omega) h2 h3
    have : i = j := by omega
    subst this
    rcases Lib.occAt_room h2 with q | q
    · exact q
    · exact absurd q ho
theorem repK_len {old new : List UInt8} (ho : old ≠ []) : ∀ (k : Nat) (s : List UInt8), k ≤ Lib.count s old → (Lib.replaceK old new k s).length + k * old.length = s.length + k * new.length
  | 0, s, _ => by simp [Lib.replaceK]
  | k + 1, s, h => by
    obtain ⟨i, hi⟩ := Lib.index_of_count (s := s) (old := old) (by omega)
    have hc := Lib.count_hit ho hi
    have hr := idx_room ho hi
    have ih := repK_len (new := new) ho k (s.drop (i + old.length)) (by omega)
    rw [Lib.replaceK_hit old new k s i hi, List.length_append, List.length_append, List.length_take, Nat.succ_mul, Nat.succ_mul, Nat.min_eq_left (by omega)]
    rw [List.length_drop] at ih
    omega
theorem repl_size (s t u : ByteArray) (ht : 1 ≤ t.size) : (repl s t u).size + Lib.countB s t * t.size = s.size + Lib.countB s t * u.size := by
  have l1 : s.data.toList.length = s.size := Array.length_toList
  have l2 : t.data.toList.length = t.size := Array.length_toList
  have l3 : u.data.toList.length = u.size := Array.length_toList
  have ho : t.data.toList ≠ [] := by intro e; rw [e] at l2; simp at l2; omega
  have hz : (repl s t u).size = (Lib.replaceAll s.data.toList t.data.toList u.data.toList).length := by show ((Lib.replaceAll _ _ _).toArray).size = _; simp
  have hk : Lib.countB s t = Lib.count s.data.toList t.data.toList := rfl
  rw [hz, hk]
  unfold Lib.replaceAll Lib.replace
  by_cases e : (t.data.toList == u.data.toList) = true
  · rw [if_pos e]
    have : t.data.toList = u.data.toList := by simpa using e
    rw [← l3, ← this, l2, l1]
  · rw [if_neg e]
    have hn : Lib.replaceNum s.data.toList t.data.toList (-1) = Lib.count s.data.toList t.data.toList := by unfold Lib.replaceNum; rw [if_pos (.inl (by decide))]
    rw [hn]
    have := repK_len (new := u.data.toList) ho _ s.data.toList (Nat.le_refl _)
    rw [l1, l2, l3] at this
    exact this
theorem repl_self (s t : ByteArray) : repl s t t = s := by
  unfold repl Lib.replaceAll Lib.replace
  rw [if_pos (by simp)]
set_option maxRecDepth 100000 in
theorem repl_aux (g tc : Nat) (np : Option Addr) (nn nc : Nat) (x : Int) (s t u : ByteArray) (w : World) (hg : g < w.heap.size) (x0 : w.cell? ⟨g, 0, none⟩ = some (.string s)) (x1 : w.cell? ⟨g, 1, none⟩ = some (.string t)) (x2 : w.cell? ⟨g, 2, none⟩ = some (.string u)) (hse : (t.toList == []) = false) (c : Nat) (HC : Hid (∀ W, Below w.heap.size w W → Calls Tryz.prog 99 #[.string s, .string t] W fun e w' => e = .returned (.int .i64 (c : Int)) ∧ w' = W)) (r : ByteArray) (HR : Hid (∀ W, Below w.heap.size w W → Calls Tryz.prog 100 #[.string s, .string t, .string u] W fun e w' => e = .returned (.string r) ∧ Below W.heap.size W w'))
    (d m a : Int) (h1 : IntKind.i64.wrap ((u.size : Int) - (t.size : Int)) = d) (h2 : IntKind.i64.wrap ((c : Int) * d) = m) (h3 : IntKind.i64.wrap ((s.size : Int) + m) = a) (h1' : wrap64 ((u.size : Int) - (t.size : Int)) = d) (h2' : wrap64 ((c : Int) * d) = m) (h3' : wrap64 ((s.size : Int) + m) = a) (h4 : ¬ x < a) (hx : x ≤ 1024) : Calls Tryz.prog 70 #[.agg #[.slice (some ⟨g, 0, none⟩) 3 tc, .slice np nn nc, .int .i64 x]] w fun e w' => e = .returned (.agg #[.int .i64 (toT (r) x), .int .i64 (0), .string (toS (r) x), .bool false, .int .i64 (toC (r) x)]) ∧ Below w.heap.size w w' := by
  have mixed : Tryz.prog.follows .mixedOrders = true := by kernel_rfl
  have hne : ¬ g = w.heap.size := by omega
  have hne1 : ¬ g = w.heap.size + 1 := by omega
  go_enter Tryz.func70, Tryz.ntmps70
  go_wp2
  go_quiet (fail)
  go_wp2
  go_region_held3 (fun w' => w'.cell? ⟨w.heap.size, 0, none⟩ = some (.slice (some ⟨g, 0, none⟩) 3 tc) ∧ w'.cell? ⟨w.heap.size, 1, none⟩ = some (.slice np nn nc) ∧ w'.cell? ⟨w.heap.size, 2, none⟩ = some (.int .i64 x)) ((repeat' apply And.intro) <;> (first | (go_keep; done) | (go_simp; done))) ((go_at_call 99; refine (HC.out _ (by with_reducible (repeat' first | assumption | exact Below.refl _ _ | refine Below.drew ?_ | refine bdrewN ?_ _ | refine Below.setCell ?_ (by first | exact Nat.le_refl _ | (simp; done) | (simp; omega) | omega) _ | refine Below.alloc ?_ (by first | exact Nat.le_refl _ | (simp; done) | (simp; omega) | omega) _))).mono ?_; rintro e w6 ⟨rfl, e6⟩; rw [e6]; clear e6))
  go_wp2
  go_region_held3 (fun w' => w'.cell? ⟨w.heap.size, 0, none⟩ = some (.slice (some ⟨g, 0, none⟩) 3 tc) ∧ w'.cell? ⟨w.heap.size, 1, none⟩ = some (.slice np nn nc) ∧ w'.cell? ⟨w.heap.size, 2, none⟩ = some (.int .i64 x)) ((repeat' apply And.intro) <;> (first | (go_keep; done) | (go_simp; done))) ((first | (go_at_call 100; refine (HR.out _ (by with_reducible (repeat' first | assumption | exact Below.refl _ _ | refine Below.drew ?_ | refine bdrewN ?_ _ | refine Below.setCell ?_ (by first | exact Nat.le_refl _ | (simp; done) | (simp; omega) | omega) _ | refine Below.alloc ?_ (by first | exact Nat.le_refl _ | (simp; done) | (simp; omega) | omega) _))).mono ?_; rintro e wa ⟨rfl, hbwa⟩; have hBwa : Below w.heap.size w wa := bup (by with_reducible (repeat' first | assumption | exact Below.refl _ _ | refine Below.drew ?_ | refine bdrewN ?_ _ | refine Below.setCell ?_ (by first | exact Nat.le_refl _ | (simp; done) | (simp; omega) | omega) _ | refine Below.alloc ?_ (by first | exact Nat.le_refl _ | (simp; done) | (simp; omega) | omega) _)) hbwa; have zwa := hBwa.size; have o0wa : Own wa (w.heap.size) #[.slice (some ⟨g, 0, none⟩) 3 tc, .slice np nn nc, .int .i64 x] := Own.keep (by with_reducible (repeat' first | assumption | refine Own.drew ?_ | refine Own.drewN ?_ _ | (refine Own.at ?_; first | rfl | (simp; done)) | refine Own.past ?_ _)) hbwa; have c0 := o0wa.cell; have f0 := o0wa.fro; have l0 := o0wa.lt; have o1wa : Own wa (w.heap.size + 1) #[.int .i64 0, .int .i64 0, .string ⟨#[]⟩, .bool false, .int .i64 0] := Own.keep (by with_reducible (repeat' first | assumption | refine Own.drew ?_ | refine Own.drewN ?_ _ | (refine Own.at ?_; first | rfl | (simp; done)) | refine Own.past ?_ _)) hbwa; have c1 := o1wa.cell; have f1 := o1wa.fro; have l1 := o1wa.lt) | (go_at_call 93; refine (ans_any _ _ _ _ _ _ _ _ _ hx).mono ?_; rintro e wc ⟨rfl, hbwc⟩; have hBwc : Below w.heap.size w wc := bup (by with_reducible (repeat' first | assumption | exact Below.refl _ _ | refine Below.drew ?_ | refine bdrewN ?_ _ | refine Below.setCell ?_ (by first | exact Nat.le_refl _ | (simp; done) | (simp; omega) | omega) _ | refine Below.alloc ?_ (by first | exact Nat.le_refl _ | (simp; done) | (simp; omega) | omega) _)) hbwc; have zwc := hBwc.size; have o0wc : Own wc (w.heap.size) #[.slice (some ⟨g, 0, none⟩) 3 tc, .slice np nn nc, .int .i64 x] := Own.keep (by with_reducible (repeat' first | assumption | refine Own.drew ?_ | refine Own.drewN ?_ _ | (refine Own.at ?_; first | rfl | (simp; done)) | refine Own.past ?_ _)) hbwc; have c0 := o0wc.cell; have f0 := o0wc.fro; have l0 := o0wc.lt; have o1wc : Own wc (w.heap.size + 1) #[.int .i64 0, .int .i64 0, .string ⟨#[]⟩, .bool false, .int .i64 0] := Own.keep (by with_reducible (repeat' first | assumption | refine Own.drew ?_ | refine Own.drewN ?_ _ | (refine Own.at ?_; first | rfl | (simp; done)) | refine Own.past ?_ _)) hbwc; have c1 := o1wc.cell; have f1 := o1wc.fro; have l1 := o1wc.lt)))
  go_wp2
  exact bodyPost_ret (v := (.agg #[.int .i64 (toT (r) x), .int .i64 (0), .string (toS (r) x), .bool false, .int .i64 (toC (r) x)])) (by simp [results, Tryz.results70, go_sem, c1, f1, l1]) rfl ⟨rfl, by with_reducible (repeat' first | assumption | exact Below.refl _ _ | refine Below.drew ?_ | refine bdrewN ?_ _ | refine Below.setCell ?_ (by first | exact Nat.le_refl _ | (simp; done) | (simp; omega) | omega) _ | refine Below.alloc ?_ (by first | exact Nat.le_refl _ | (simp; done) | (simp; omega) | omega) _)⟩
end Go.Proofs.YtdcfnfapdceenaaGreatDoor
