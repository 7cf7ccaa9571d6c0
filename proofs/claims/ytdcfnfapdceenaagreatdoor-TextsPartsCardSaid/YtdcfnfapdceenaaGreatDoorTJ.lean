/- The contracts of slices.Reverse at bytes and of texts.reversed. New memory alone is made. -/
import Derived.Test.YtdcfnfapdceenaaGreatDoorTI
import Derived.RegionTactic
namespace Go.Proofs.YtdcfnfapdceenaaGreatDoor
open Go.RowKit
set_option linter.all false
/-- So far turned: i bytes from both ends. -/
def Tu (l c : List UInt8) (i : Nat) : Prop := c.length = l.length ∧ ∀ k, k < l.length → c[k]? = if k < i ∨ l.length - i ≤ k then l[l.length - 1 - k]? else l[k]?
theorem tu_0 (l : List UInt8) : Tu l l 0 := ⟨rfl, fun k hk => by rw [if_neg (by omega)]⟩
theorem tu_next {l c : List UInt8} {i : Nat} (h : Tu l c i) (hi : i < l.length - 1 - i) {x y : UInt8} (hx : l[i]? = some x) (hy : l[l.length - 1 - i]? = some y) : Tu l ((c.set i y).set (l.length - 1 - i) x) (i + 1) := by
  refine ⟨by rw [List.length_set, List.length_set]; exact h.1, fun k hk => ?_⟩
  by_cases e1 : l.length - 1 - i = k
  · subst e1
    rw [List.getElem?_set_self (by rw [List.length_set, h.1]; omega), if_pos (by omega), show l.length - 1 - (l.length - 1 - i) = i by omega, hx]
  · rw [List.getElem?_set_ne e1]
    by_cases e2 : i = k
    · subst e2
      rw [List.getElem?_set_self (by rw [h.1]; omega), if_pos (by omega), hy]
    · rw [List.getElem?_set_ne e2, h.2 k hk]
      by_cases g : k < i ∨ l.length - i ≤ k
      · rw [if_pos g, if_pos (by omega)]
      · rw [if_neg g, if_neg (by omega)]
theorem tu_end {l c : List UInt8} {i : Nat} (h : Tu l c i) (hi : ¬ i < l.length - 1 - i) : c = l.reverse := by
  apply List.ext_getElem?
  intro k
  by_cases hk : k < l.length
  · rw [h.2 k hk, List.getElem?_reverse hk]
    by_cases g : k < i ∨ l.length - i ≤ k
    · rw [if_pos g]
    · rw [if_neg g, show l.length - 1 - k = k by omega]
  · rw [List.getElem?_eq_none (by rw [h.1]; omega), List.getElem?_eq_none (by rw [List.length_reverse]; omega)]
theorem Tu.i {l c : List UInt8} {i : Nat} (h : Tu l c i) (hi : i < l.length - 1 - i) : c[i]? = l[i]? := by rw [h.2 i (by omega), if_neg (by omega)]
theorem Tu.j {l c : List UInt8} {i : Nat} (h : Tu l c i) (hi : i < l.length - 1 - i) : c[l.length - 1 - i]? = l[l.length - 1 - i]? := by rw [h.2 _ (by omega), if_neg (by omega)]
set_option maxRecDepth 100000 in
set_option maxHeartbeats 2000000 in
theorem rev_any (w : World) (B cap n : Nat) (l : List UInt8) (hb : BB w B l) (hn : l.length = n) (hs : n ≤ 9223372036854775807) : Calls Tryz.prog 103 #[.slice (some ⟨B, 0, none⟩) n cap] w fun e w' => (e = .returned (.tuple #[]) ∧ BB w' B l.reverse) ∧ Mut (fun b => b = B) w w' := by
  have mixed : Tryz.prog.follows .mixedOrders = true := by kernel_rfl
  have HB : Hid _ := hb
  have HL : Hid (l.length = n) := hn
  clear hb hn
  go_enter Tryz.func103, Tryz.ntmps103
  go_wp2
  go_loopw [2, 3] (fun u v w' => ∃ i : Nat, u = .int .i64 i ∧ v = .int .i64 ((n : Int) - 1 - i) ∧ i ≤ n ∧ (∃ c, Hid (BB w' B c) ∧ Hid (Tu l c i)) ∧ Hid (Mut (fun b => b = B) w w')) (fun u _ _ => n - (intOf u).toNat)
  case atStart => exact ⟨0, rfl, by simp, by omega, ⟨l, HB, tu_0 l⟩, Mut.refl _ _⟩
  case round =>
    obtain ⟨i, rfl, rfl, hii, ⟨c, hc, ht⟩, hm⟩ := hrel
    by_cases hlt : (i : Int) < (n : Int) - 1 - i
    · have hij : i < l.length - 1 - i := by rw [HL.out]; omega
      have hil : i < l.length := by omega
      have hjl : l.length - 1 - i < l.length := by omega
      have c0 := hc.out.2 i _ ((ht.out.i hij).trans (List.getElem?_eq_getElem hil))
      have c1 := hc.out.2 _ _ ((ht.out.j hij).trans (List.getElem?_eq_getElem hjl))
      have hxx : Hid (l[i]? = some l[i]) := List.getElem?_eq_getElem hil
      have hyy : Hid (l[l.length - 1 - i]? = some l[l.length - 1 - i]) := List.getElem?_eq_getElem hjl
      revert c0 c1 hxx hyy
      generalize l[i] = x
      generalize l[l.length - 1 - i] = y
      intro c0 c1 hxx hyy
      have hjn : Hid (l.length - 1 - i = n - 1 - i) := by show _ = _; rw [HL.out]
      have HI : Hid (i < l.length - 1 - i) := hij
      clear hij hil hjl
      rw [hjn.out] at c1
      have hj : (n : Int) - 1 - i = ((n - 1 - i : Nat) : Int) := by omega
      have hin : i < n - 1 - i := by omega
      have hjn2 : n - 1 - i < n := by omega
      rw [hj] at hlt ⊢
      generalize hg : n - 1 - i = j at *
      obtain ⟨c0, f0⟩ := c0
      obtain ⟨c1, f1⟩ := c1
      have hBl := hc.out.1
      have hne : ¬ i = j := by omega
      have hne2 : ¬ j = i := by omega
      have hjI : (j : Int) < (n : Int) := by omega
      have hiI : (i : Int) < (n : Int) := by omega
      go_wp2_with fail
      go_region
      go_wp2
      refine ⟨⟨i + 1, by go_num, by congr 1; omega, by omega, ⟨_, (show Hid _ from ((BB.put (BB.put hc.out (k := i) (by have := ht.out.1; have := HL.out; omega) y) (k := j) (by rw [List.length_set]; have := ht.out.1; have := HL.out; omega) x).keep (Below.refl _ _).drew)), (show Hid _ from ?_)⟩, (show Hid _ from ((hm.out.set (.inl rfl) _).set (.inl rfl) _).drew)⟩, by simp [intOf]; omega⟩
      have q := tu_next ht.out HI.out hxx.out hyy.out
      rw [hjn.out] at q
      exact q
    · have hnot : ¬ i < l.length - 1 - i := by rw [HL.out]; omega
      have he := tu_end ht.out hnot
      have hq := hc.out
      rw [he] at hq
      go_wp2
      go_end0
      exact ⟨⟨rfl, hq⟩, hm.out⟩
theorem bb_at {w : World} {n : Nat} (h : n = w.heap.size) (s : ByteArray) (cap : Nat) (T : TypeId) : BB (w.alloc (.cells (bytesRow s cap) T ((bytesRow s cap).size, (bytesRow s cap).size + 1))).drew n s.data.toList := by subst h; exact bb_new w s cap T
set_option maxRecDepth 100000 in
theorem revd_any (g tc : Nat) (np : Option Addr) (nn nc : Nat) (x : Int) (s : ByteArray) (w : World) (hg : g < w.heap.size) (x0 : w.cell? ⟨g, 0, none⟩ = some (.string s)) (hx : x ≤ 1024) (hs : s.size ≤ 9223372036854775807) : Calls Tryz.prog 75 #[.agg #[.slice (some ⟨g, 0, none⟩) 1 tc, .slice np nn nc, .int .i64 x]] w fun e w' => e = .returned (.agg #[.int .i64 (toT ((⟨s.data.toList.reverse.toArray⟩ : ByteArray)) x), .int .i64 (0), .string (toS ((⟨s.data.toList.reverse.toArray⟩ : ByteArray)) x), .bool false, .int .i64 (toC ((⟨s.data.toList.reverse.toArray⟩ : ByteArray)) x)]) ∧ Below w.heap.size w w' := by
  have hcv := fun w => run_bytes_of_string (P := Tryz.prog) w 9 73 5 s Tryz.underlying9 Tryz.underlying73 Tryz.underlying5
  have mixed : Tryz.prog.follows .mixedOrders = true := by kernel_rfl
  have hne : ¬ g = w.heap.size := by omega
  have hne1 : ¬ g = w.heap.size + 1 := by omega
  go_enter Tryz.func75, Tryz.ntmps75
  go_wp2_with (first | (go_at_call 103; refine (rev_any _ _ _ _ s.data.toList (bb_at (by simp) _ _ _) (show s.data.toList.length = s.data.size from Array.length_toList) hs).mono ?_; rintro e w1 ⟨⟨rfl, hbb⟩, hm⟩; have hB1 : Below w.heap.size w w1 := Below.ofMut (by with_reducible (repeat' first | assumption | exact Below.refl _ _ | refine Below.drew ?_ | refine bdrewN ?_ _ | refine Below.setCell ?_ (by first | exact Nat.le_refl _ | (simp; done) | (simp; omega) | omega) _ | refine Below.alloc ?_ (by first | exact Nat.le_refl _ | (simp; done) | (simp; omega) | omega) _)) hm (by simp; omega) (fun b hb => by omega); have z1 := hB1.size; have o0 : Own w1 w.heap.size #[.slice (some ⟨g, 0, none⟩) 1 tc, .slice np nn nc, .int .i64 x] := Own.mut (by with_reducible (repeat' first | assumption | refine Own.drew ?_ | refine Own.drewN ?_ _ | (refine Own.at ?_; first | rfl | (simp; done)) | refine Own.past ?_ _)) hm (by omega); have c0 := o0.cell; have f0 := o0.fro; have l0 := o0.lt; have o1 : Own w1 (w.heap.size + 1) #[.int .i64 0, .int .i64 0, .string ⟨#[]⟩, .bool false, .int .i64 0] := Own.mut (by with_reducible (repeat' first | assumption | refine Own.drew ?_ | refine Own.drewN ?_ _ | (refine Own.at ?_; first | rfl | (simp; done)) | refine Own.past ?_ _)) hm (by omega); have c1 := o1.cell; have f1 := o1.fro; have l1 := o1.lt; have hcb := fun c => bb_back hbb s.size c (by rw [List.length_reverse]; exact (show s.data.toList.length = s.data.size from Array.length_toList))) | (go_at_call 93; refine (ans_any _ _ _ _ _ _ _ _ _ hx).mono ?_; rintro e wc ⟨rfl, hbwc⟩; have hBwc : Below w.heap.size w wc := bup (by with_reducible (repeat' first | assumption | exact Below.refl _ _ | refine Below.drew ?_ | refine bdrewN ?_ _ | refine Below.setCell ?_ (by first | exact Nat.le_refl _ | (simp; done) | (simp; omega) | omega) _ | refine Below.alloc ?_ (by first | exact Nat.le_refl _ | (simp; done) | (simp; omega) | omega) _)) hbwc; have zwc := hBwc.size; have o0wc : Own wc (w.heap.size) #[.slice (some ⟨g, 0, none⟩) 1 tc, .slice np nn nc, .int .i64 x] := Own.keep (by with_reducible (repeat' first | assumption | refine Own.drew ?_ | refine Own.drewN ?_ _ | (refine Own.at ?_; first | rfl | (simp; done)) | refine Own.past ?_ _)) hbwc; have c0 := o0wc.cell; have f0 := o0wc.fro; have l0 := o0wc.lt; have o1wc : Own wc (w.heap.size + 1) #[.int .i64 0, .int .i64 0, .string ⟨#[]⟩, .bool false, .int .i64 0] := Own.keep (by with_reducible (repeat' first | assumption | refine Own.drew ?_ | refine Own.drewN ?_ _ | (refine Own.at ?_; first | rfl | (simp; done)) | refine Own.past ?_ _)) hbwc; have c1 := o1wc.cell; have f1 := o1wc.fro; have l1 := o1wc.lt))
  exact bodyPost_ret (v := (.agg #[.int .i64 (toT ((⟨s.data.toList.reverse.toArray⟩ : ByteArray)) x), .int .i64 (0), .string (toS ((⟨s.data.toList.reverse.toArray⟩ : ByteArray)) x), .bool false, .int .i64 (toC ((⟨s.data.toList.reverse.toArray⟩ : ByteArray)) x)])) (by simp [results, Tryz.results75, go_sem, c1, f1, l1]) rfl ⟨rfl, by with_reducible (repeat' first | assumption | exact Below.refl _ _ | refine Below.drew ?_ | refine bdrewN ?_ _ | refine Below.setCell ?_ (by first | exact Nat.le_refl _ | (simp; done) | (simp; omega) | omega) _ | refine Below.alloc ?_ (by first | exact Nat.le_refl _ | (simp; done) | (simp; omega) | omega) _)⟩
end Go.Proofs.YtdcfnfapdceenaaGreatDoor
