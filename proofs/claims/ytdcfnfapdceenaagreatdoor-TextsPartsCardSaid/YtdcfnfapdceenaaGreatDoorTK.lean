/- The contracts of texts.Call at LEFT, RIGHT, REV, UPPER and LOWER of a text; blocks of the caller's own, several at once. New memory alone is made. -/
import Derived.Test.YtdcfnfapdceenaaGreatDoorTH
import Derived.Test.YtdcfnfapdceenaaGreatDoorTJ
namespace Go.Proofs.YtdcfnfapdceenaaGreatDoor
open Go.RowKit
set_option linter.all false
theorem nm_left : nmI ⟨#[76, 69, 70, 84]⟩ = 1 := by kernel_rfl
theorem nm_right : nmI ⟨#[82, 73, 71, 72, 84]⟩ = 2 := by kernel_rfl
theorem nm_rev2 : nmI ⟨#[82, 69, 86]⟩ = 14 := by kernel_rfl
theorem nm_upper : nmI ⟨#[85, 80, 80, 69, 82]⟩ = 4 := by kernel_rfl
theorem nm_lower : nmI ⟨#[76, 79, 87, 69, 82]⟩ = 5 := by kernel_rfl
theorem call_left (s : ByteArray) (n : Int) (w : World) (v : Value) (x : Int) (hv : AV w v [argT s, argW n]) (hP : Pow w) (hn : Mod n) (hn0 : 0 ≤ n) (hx : 0 ≤ x) (hx2 : x ≤ 1024) (hs : s.size ≤ 9223372036854775807) :
    Calls Tryz.prog 9 #[.string ⟨#[76, 69, 70, 84]⟩, v, .int .i64 x] w fun e w' => e = .returned (.agg #[.int .i64 (toT (s.extract 0 (min n.toNat s.size)) x), .int .i64 (0), .string (toS (s.extract 0 (min n.toNat s.size)) x), .bool false, .int .i64 (toC (s.extract 0 (min n.toNat s.size)) x)]) ∧ Below w.heap.size w w' := by
  refine call_ok _ 1 nm_left (by decide) w v x _ [s] [n] hv (by simp) (by simp) hP (show hasB (loI 1) (hiI 1) 2 = true by decide) ?_ ?_ ?_ ?_ hx hx2 _ _ _ _ _ ?_
  · intro a ha
    simp at ha
    rcases ha with rfl | rfl
    · exact okT_T s
    · exact okT_W hn
  · show [aT (argT s)] = [s]; rw [aT_T]
  · show [aI (argW n)] = [n]; rw [aI_W hn]
  · intro a ha
    have ha' : a ∈ [argW n] := ha
    simp at ha'
    subst ha'
    exact cd_W hn
  · intro W tp tc np nc h1 h2
    obtain ⟨_, g, rfl, hg, hc⟩ := SRow.lay h1 (by simp)
    obtain ⟨_, h, rfl, hh, hd⟩ := IRow.lay h2 (by simp)
    exact left_ok g tc _ 1 nc x s W hg (hc 0 s rfl) n hn0 (by have := hn.2; omega) hs hx2 (fun W' hb => nor_1 _ _ _ h 1 nc x 1 n W' (by decide) (Nat.lt_of_lt_of_le hh hb.size) ((hb.cell (p := ⟨h, 0, none⟩) hh).trans (hd 0 n rfl)))
theorem call_right (s : ByteArray) (n : Int) (w : World) (v : Value) (x : Int) (hv : AV w v [argT s, argW n]) (hP : Pow w) (hn : Mod n) (hn0 : 0 ≤ n) (hx : 0 ≤ x) (hx2 : x ≤ 1024) (hs : s.size ≤ 9223372036854775807) :
    Calls Tryz.prog 9 #[.string ⟨#[82, 73, 71, 72, 84]⟩, v, .int .i64 x] w fun e w' => e = .returned (.agg #[.int .i64 (toT (s.extract (s.size - min n.toNat s.size) s.size) x), .int .i64 (0), .string (toS (s.extract (s.size - min n.toNat s.size) s.size) x), .bool false, .int .i64 (toC (s.extract (s.size - min n.toNat s.size) s.size) x)]) ∧ Below w.heap.size w w' := by
  refine call_ok _ 2 nm_right (by decide) w v x _ [s] [n] hv (by simp) (by simp) hP (show hasB (loI 2) (hiI 2) 2 = true by decide) ?_ ?_ ?_ ?_ hx hx2 _ _ _ _ _ ?_
  · intro a ha
    simp at ha
    rcases ha with rfl | rfl
    · exact okT_T s
    · exact okT_W hn
  · show [aT (argT s)] = [s]; rw [aT_T]
  · show [aI (argW n)] = [n]; rw [aI_W hn]
  · intro a ha
    have ha' : a ∈ [argW n] := ha
    simp at ha'
    subst ha'
    exact cd_W hn
  · intro W tp tc np nc h1 h2
    obtain ⟨_, g, rfl, hg, hc⟩ := SRow.lay h1 (by simp)
    obtain ⟨_, h, rfl, hh, hd⟩ := IRow.lay h2 (by simp)
    exact right_ok g tc _ 1 nc x s W hg (hc 0 s rfl) n hn0 (by have := hn.2; omega) hs hx2 (fun W' hb => nor_1 _ _ _ h 1 nc x 1 n W' (by decide) (Nat.lt_of_lt_of_le hh hb.size) ((hb.cell (p := ⟨h, 0, none⟩) hh).trans (hd 0 n rfl)))
theorem call_rev (s : ByteArray) (w : World) (v : Value) (x : Int) (hv : AV w v [argT s]) (hP : Pow w) (hx : 0 ≤ x) (hx2 : x ≤ 1024) (hs : s.size ≤ 9223372036854775807) :
    Calls Tryz.prog 9 #[.string ⟨#[82, 69, 86]⟩, v, .int .i64 x] w fun e w' => e = .returned (.agg #[.int .i64 (toT ((⟨s.data.toList.reverse.toArray⟩ : ByteArray)) x), .int .i64 (0), .string (toS ((⟨s.data.toList.reverse.toArray⟩ : ByteArray)) x), .bool false, .int .i64 (toC ((⟨s.data.toList.reverse.toArray⟩ : ByteArray)) x)]) ∧ Below w.heap.size w w' := by
  refine call_ok _ 14 nm_rev2 (by decide) w v x _ [s] [] hv (by simp) (by simp) hP (show hasB (loI 14) (hiI 14) 1 = true by decide) ?_ ?_ rfl ?_ hx hx2 _ _ _ _ _ ?_
  · intro a ha
    simp at ha
    subst ha
    exact okT_T s
  · show [aT (argT s)] = [s]; rw [aT_T]
  · intro a ha
    have ha' : a ∈ ([] : List Ag) := ha
    simp at ha'
  · intro W tp tc np nc h1 h2
    obtain ⟨_, g, rfl, hg, hc⟩ := SRow.lay h1 (by simp)
    exact revd_any g tc np 0 nc x s W hg (hc 0 s rfl) hx2 hs
theorem call_upper (s : ByteArray) (w : World) (v : Value) (x : Int) (hv : AV w v [argT s]) (hP : Pow w) (hx : 0 ≤ x) (hx2 : x ≤ 1024) (hs : s.size ≤ 9223372036854775807) :
    Calls Tryz.prog 9 #[.string ⟨#[85, 80, 80, 69, 82]⟩, v, .int .i64 x] w fun e w' => e = .returned (.agg #[.int .i64 (toT ((⟨(s.data.toList.map upB).toArray⟩ : ByteArray)) x), .int .i64 (0), .string (toS ((⟨(s.data.toList.map upB).toArray⟩ : ByteArray)) x), .bool false, .int .i64 (toC ((⟨(s.data.toList.map upB).toArray⟩ : ByteArray)) x)]) ∧ Below w.heap.size w w' := by
  refine call_ok _ 4 nm_upper (by decide) w v x _ [s] [] hv (by simp) (by simp) hP (show hasB (loI 4) (hiI 4) 1 = true by decide) ?_ ?_ rfl ?_ hx hx2 _ _ _ _ _ ?_
  · intro a ha
    simp at ha
    subst ha
    exact okT_T s
  · show [aT (argT s)] = [s]; rw [aT_T]
  · intro a ha
    have ha' : a ∈ ([] : List Ag) := ha
    simp at ha'
  · intro W tp tc np nc h1 h2
    obtain ⟨_, g, rfl, hg, hc⟩ := SRow.lay h1 (by simp)
    exact up_any g tc np 0 nc x s W hg (hc 0 s rfl) hx2 hs
theorem call_lower (s : ByteArray) (w : World) (v : Value) (x : Int) (hv : AV w v [argT s]) (hP : Pow w) (hx : 0 ≤ x) (hx2 : x ≤ 1024) (hs : s.size ≤ 9223372036854775807) :
    Calls Tryz.prog 9 #[.string ⟨#[76, 79, 87, 69, 82]⟩, v, .int .i64 x] w fun e w' => e = .returned (.agg #[.int .i64 (toT ((⟨(s.data.toList.map loB).toArray⟩ : ByteArray)) x), .int .i64 (0), .string (toS ((⟨(s.data.toList.map loB).toArray⟩ : ByteArray)) x), .bool false, .int .i64 (toC ((⟨(s.data.toList.map loB).toArray⟩ : ByteArray)) x)]) ∧ Below w.heap.size w w' := by
  refine call_ok _ 5 nm_lower (by decide) w v x _ [s] [] hv (by simp) (by simp) hP (show hasB (loI 5) (hiI 5) 1 = true by decide) ?_ ?_ rfl ?_ hx hx2 _ _ _ _ _ ?_
  · intro a ha
    simp at ha
    subst ha
    exact okT_T s
  · show [aT (argT s)] = [s]; rw [aT_T]
  · intro a ha
    have ha' : a ∈ ([] : List Ag) := ha
    simp at ha'
  · intro W tp tc np nc h1 h2
    obtain ⟨_, g, rfl, hg, hc⟩ := SRow.lay h1 (by simp)
    exact lo_any g tc np 0 nc x s W hg (hc 0 s rfl) hx2 hs
/-- Several blocks of the caller's own. -/
def Bag (w : World) (L : List (Nat × Array Value)) : Prop := ∀ p ∈ L, Own w p.1 p.2
theorem Bag.nil (w : World) : Bag w [] := fun p hp => by simp at hp
theorem Bag.keep {w w' : World} {L : List (Nat × Array Value)} (h : Bag w L) (hb : Below w.heap.size w w') : Bag w' L := fun p hp => (h p hp).keep hb
theorem Bag.new {w : World} {L : List (Nat × Array Value)} (h : Bag w L) (A : Array Value) (T : TypeId) : Bag (w.alloc (.cells A T)) ((w.heap.size, A) :: L) := fun p hp => by
  rcases List.mem_cons.1 hp with rfl | hp
  · exact Own.new _ _ _
  · exact (h p hp).past _
theorem Bag.at {w : World} {L : List (Nat × Array Value)} (h : Bag w L) (i : Nat) {p : Nat × Array Value} (hi : L[i]? = some p) : Own w p.1 p.2 := h p (List.mem_of_getElem? hi)
theorem to_fit {s : ByteArray} {x : Int} (h : (s.size : Int) ≤ x) : toT s x = 2 ∧ toS s x = s ∧ toC s x = 0 := by
  unfold toT toS toC
  rw [if_neg (by omega), if_neg (by omega), if_neg (by omega)]
  exact ⟨rfl, rfl, rfl⟩
end Go.Proofs.YtdcfnfapdceenaaGreatDoor
