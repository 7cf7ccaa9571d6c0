/- The contracts of value's wrong, filled, parts, word, of cmp.Compare at Tag, int64 and string, and of the document's fault and texts: for every argument. New memory alone is made. Parts of the contract of value.Compare: of any two values -1, 0 or 1. New memory alone is made. No condition but that the numbers are int64. -/
import Derived.Test.YtcgcnpcimfaecaaGreatDoorQNT1
import Derived.Laws.Cover1
import Derived.Sort.Walk0
import Derived.Lib.Hide
import Derived.Deep.QuietTactic
import Derived.BigQuiet
import Derived.Lib.Walk
import Derived.Test.YtcgcnpcimfaecaaGreatDoorQNT0
import Derived.Deep.RegionHeld3
namespace Go.Proofs.YtcgcnpcimfaecaaGreatDoor
open Go.RowKit
set_option linter.all false
/-- What has to be told in a value's place: a Fault's code, CodeArg, or nothing. -/
def wrongC (t n : Int) (s : ByteArray) (b : Bool) (c : Int) : Int := if mayB t n s b c = true then c else 8
theorem wrong_t {t n : Int} {s : ByteArray} {b : Bool} {c : Int} (h : mayB t n s b c = true) : wrongC t n s b c = c := if_pos h
theorem wrong_f {t n : Int} {s : ByteArray} {b : Bool} {c : Int} (h : mayB t n s b c = false) : wrongC t n s b c = 8 := if_neg (by rw [h]; decide)
theorem wrongV (t n : Int) (s : ByteArray) (b : Bool) (c : Int) (w : World) (hn : I64 n) : Calls Tryz.prog 139 #[(.agg #[.int .i64 (t), .int .i64 (n), .string s, .bool b, .int .i64 (c)])] w fun e w' => e = .returned (.int .i64 (wrongC t n s b c)) ∧ Below w.heap.size w w' := by
  by_cases hm : mayB t n s b c = true
  · rw [wrong_t hm]
    go_enter Tryz.func139, Tryz.ntmps139
    go_wp2_with (go_at_call 100; refine (mayV t n s b c _ hn).mono ?_; rw [hm]; rintro e w1 ⟨rfl, hb⟩; have hcc := bcell hb)
    go_ret
    exact ⟨rfl, bup (bal _ _) hb⟩
  · have hm' : mayB t n s b c = false := by simpa using hm
    rw [wrong_f hm']
    clear hm
    go_enter Tryz.func139, Tryz.ntmps139
    go_wp2_with (go_at_call 100; refine (mayV t n s b c _ hn).mono ?_; rw [hm']; rintro e w1 ⟨rfl, hb⟩; have hcc := bcell hb)
    go_ret
    exact ⟨rfl, bup (bal _ _) hb⟩
theorem rfaultV (t n : Int) (s : ByteArray) (b : Bool) (c : Int) (w : World) (hn : I64 n) : Calls Tryz.prog 69 #[(.agg #[.int .i64 (t), .int .i64 (n), .string s, .bool b, .int .i64 (c)])] w fun e w' => e = .returned (.int .i64 (wrongC t n s b c)) ∧ Below w.heap.size w w' := by
  by_cases hm : mayB t n s b c = true
  · rw [wrong_t hm]
    go_enter Tryz.func69, Tryz.ntmps69
    go_wp2_with (go_at_call 49; refine (rmayV t n s b c _ hn).mono ?_; rw [hm]; rintro e w1 ⟨rfl, hb⟩; have hcc := bcell hb)
    go_ret
    exact ⟨rfl, bup (bal _ _) hb⟩
  · have hm' : mayB t n s b c = false := by simpa using hm
    rw [wrong_f hm']
    clear hm
    go_enter Tryz.func69, Tryz.ntmps69
    go_wp2_with (go_at_call 49; refine (rmayV t n s b c _ hn).mono ?_; rw [hm']; rintro e w1 ⟨rfl, hb⟩; have hcc := bcell hb)
    go_ret
    exact ⟨rfl, bup (bal _ _) hb⟩
def partsI (b : Bool) : Int := if b then 10000 else 0
def wordB (b : Bool) : ByteArray := if b then ⟨#[84, 82, 85, 69]⟩ else ⟨#[70, 65, 76, 83, 69]⟩
theorem partsV (b : Bool) (w : World) : Calls Tryz.prog 140 #[.bool b] w fun e w' => e = .returned (.int .i64 (partsI b)) ∧ w' = w := by
  cases b
  · go_enter Tryz.func140, Tryz.ntmps140
    go_wp2
    go_ret
    exact ⟨rfl, rfl⟩
  · go_enter Tryz.func140, Tryz.ntmps140
    go_wp2
    go_ret
    exact ⟨rfl, rfl⟩
theorem wordV (b : Bool) (w : World) : Calls Tryz.prog 157 #[.bool b] w fun e w' => e = .returned (.string (wordB b)) ∧ w' = w := by
  cases b
  · go_enter Tryz.func157, Tryz.ntmps157
    go_wp2
    go_ret
    exact ⟨rfl, rfl⟩
  · go_enter Tryz.func157, Tryz.ntmps157
    go_wp2
    go_ret
    exact ⟨rfl, rfl⟩
/-- -1, 0 or 1. -/
def cmpI (x y : Int) : Int := if x < y then -1 else if y < x then 1 else 0
theorem cmp64_nan (x : Int) (w : World) : Calls Tryz.prog 182 #[.int .i64 x] w fun e w' => e = .returned (.bool false) ∧ w' = w := by
  have hx : (x != x) = false := by simp
  go_enter Tryz.func182, Tryz.ntmps182
  go_wp2
  go_ret
  exact ⟨rfl, rfl⟩
/-- Two texts byte by byte. -/
def cmpS (a b : ByteArray) : Int := if a.toList < b.toList then -1 else if a.toList = b.toList then 0 else 1
theorem lex_lt : ∀ (k : Nat) (l m : List UInt8) (x y : UInt8), (∀ j, j < k → l[j]? = m[j]?) → l[k]? = some x → m[k]? = some y → x < y → l < m
  | 0, [], _, _, _, _, h, _, _ => by simp at h
  | 0, _ :: _, [], _, _, _, _, h, _ => by simp at h
  | 0, a :: l, b :: m, x, y, _, h, h', hl => by
    simp at h h'
    rw [List.cons_lt_cons_iff]
    exact Or.inl (by rw [h, h']; exact hl)
  | k + 1, [], _, _, _, _, h, _, _ => by simp at h
  | k + 1, _ :: _, [], _, _, _, _, h, _ => by simp at h
  | k + 1, a :: l, b :: m, x, y, hp, h, h', hl => by
    rw [List.cons_lt_cons_iff]
    have h0 := hp 0 (by omega)
    simp at h0 h h'
    exact Or.inr ⟨h0, lex_lt k l m x y (fun j hj => by simpa using hp (j + 1) (by omega)) h h' hl⟩
theorem lex_pre : ∀ (l m : List UInt8), (∀ j, j < l.length → l[j]? = m[j]?) → l.length < m.length → l < m
  | [], [], _, h => by simp at h
  | [], b :: m, _, _ => by simp
  | a :: l, [], _, h => by simp at h
  | a :: l, b :: m, hp, h => by
    rw [List.cons_lt_cons_iff]
    have h0 := hp 0 (by simp)
    simp at h0 h
    exact Or.inr ⟨h0, lex_pre l m (fun j hj => by simpa using hp (j + 1) (by simp; omega)) h⟩
theorem lex_eq (l m : List UInt8) (hp : ∀ j, j < l.length → l[j]? = m[j]?) (h : l.length = m.length) : l = m := by
  apply List.ext_getElem?
  intro j
  by_cases hj : j < l.length
  · exact hp j hj
  · rw [List.getElem?_eq_none (by omega), List.getElem?_eq_none (by omega)]
theorem toL_at (s : ByteArray) (j : Nat) (h : j < s.size) : s.toList[j]? = some s[j] := by
  rw [ByteArray.toList_eq]
  rw [List.getElem?_eq_getElem (by simpa using h)]
  rfl
theorem toL_len (s : ByteArray) : s.toList.length = s.size := by
  rw [ByteArray.toList_eq]; rfl
/-- The first k bytes of two texts are the same. -/
def PreEq (a b : ByteArray) (k : Nat) : Prop := k ≤ a.size ∧ k ≤ b.size ∧ ∀ j, j < k → a.toList[j]? = b.toList[j]?
theorem pre_lt {a b : ByteArray} {k : Nat} (hp : PreEq a b k) (ha : k < a.size) (hb : k < b.size) (h : a[k].toNat < b[k].toNat) : cmpS a b = -1 :=
  if_pos (lex_lt k _ _ _ _ hp.2.2 (toL_at a k ha) (toL_at b k hb) (UInt8.lt_iff_toNat_lt.2 h))
theorem not_both {l m : List UInt8} (h : l < m) : ¬ m < l ∧ ¬ m = l := by
  refine ⟨fun h' => absurd (List.lt_trans h h') (List.lt_irrefl _), fun h' => ?_⟩
  rw [h'] at h
  exact absurd h (List.lt_irrefl _)
theorem cmp_gt {a b : ByteArray} (h : b.toList < a.toList) : cmpS a b = 1 := by
  unfold cmpS
  rw [if_neg (not_both h).1, if_neg (not_both h).2]
theorem pre_gt {a b : ByteArray} {k : Nat} (hp : PreEq a b k) (ha : k < a.size) (hb : k < b.size) (h : b[k].toNat < a[k].toNat) : cmpS a b = 1 :=
  cmp_gt (lex_lt k _ _ _ _ (fun j hj => (hp.2.2 j hj).symm) (toL_at b k hb) (toL_at a k ha) (UInt8.lt_iff_toNat_lt.2 h))
theorem pre_step {a b : ByteArray} {k : Nat} (hp : PreEq a b k) (ha : k < a.size) (hb : k < b.size) (h : ¬ a[k].toNat < b[k].toNat) (h' : ¬ b[k].toNat < a[k].toNat) : PreEq a b (k + 1) := by
  refine ⟨ha, hb, fun j hj => ?_⟩
  by_cases hjk : j < k
  · exact hp.2.2 j hjk
  · obtain rfl : j = k := by omega
    rw [toL_at a j ha, toL_at b j hb, UInt8.toNat_inj.1 (show a[j].toNat = b[j].toNat by omega)]
theorem pre_end_eq {a b : ByteArray} {k : Nat} (hp : PreEq a b k) (h : a.size ≤ k ∨ b.size ≤ k) (h' : a.size = b.size) : cmpS a b = 0 := by
  have hk : k = a.size := by have := hp.1; have := hp.2.1; omega
  subst hk
  have he : a.toList = b.toList := lex_eq _ _ (fun j hj => hp.2.2 j (by rw [toL_len] at hj; exact hj)) (by rw [toL_len, toL_len]; exact h')
  unfold cmpS
  rw [he, if_neg (List.lt_irrefl _), if_pos rfl]
theorem pre_end_lt {a b : ByteArray} {k : Nat} (hp : PreEq a b k) (h : a.size ≤ k ∨ b.size ≤ k) (h' : a.size < b.size) : cmpS a b = -1 := by
  have hk : k = a.size := by have := hp.1; have := hp.2.1; omega
  subst hk
  exact if_pos (lex_pre _ _ (fun j hj => hp.2.2 j (by rw [toL_len] at hj; exact hj)) (by rw [toL_len, toL_len]; exact h'))
theorem pre_end_gt {a b : ByteArray} {k : Nat} (hp : PreEq a b k) (h : a.size ≤ k ∨ b.size ≤ k) (h' : b.size < a.size) : cmpS a b = 1 := by
  have hk : k = b.size := by have := hp.1; have := hp.2.1; omega
  subst hk
  exact cmp_gt (lex_pre _ _ (fun j hj => (hp.2.2 j (by rw [toL_len] at hj; exact hj)).symm) (by rw [toL_len, toL_len]; exact h'))
end Go.Proofs.YtcgcnpcimfaecaaGreatDoor
namespace Go.Proofs.YtcgcnpcimfaecaaGreatDoor
open Go.RowKit
set_option linter.all false
/-- A tag, or another one in Blank's place. -/
def fillT (t x : Int) : Int := if t = 0 then x else t
theorem may_cases {t n : Int} {s : ByteArray} {b : Bool} {c : Int} (h : mayB t n s b c = true) (h4 : ¬ t = 4) :
    (t = 0 ∧ n = 0 ∧ s = ⟨#[]⟩ ∧ b = false ∧ c = 0) ∨ (t = 1 ∧ s = ⟨#[]⟩ ∧ b = false ∧ c = 0) ∨ (t = 2 ∧ n = 0 ∧ b = false ∧ c = 0) ∨ (t = 3 ∧ n = 0 ∧ s = ⟨#[]⟩ ∧ c = 0) := by
  unfold mayB at h
  obtain ⟨h1, h2, h3, h5, h6, h7, _, _⟩ := of_decide_eq_true h
  have ht : t = 0 ∨ t = 1 ∨ t = 2 ∨ t = 3 := by omega
  rcases ht with rfl | rfl | rfl | rfl
  · exact .inl ⟨rfl, h1 (by decide), h2 (by decide), h3 (by decide), h5 (by decide)⟩
  · exact .inr (.inl ⟨rfl, h2 (by decide), h3 (by decide), h5 (by decide)⟩)
  · exact .inr (.inr (.inl ⟨rfl, h1 (by decide), h3 (by decide), h5 (by decide)⟩))
  · exact .inr (.inr (.inr ⟨rfl, h1 (by decide), h2 (by decide), h5 (by decide)⟩))
theorem may_c {t n : Int} {s : ByteArray} {b : Bool} {c : Int} (h : mayB t n s b c = true) : (t = 4 → ¬ c = 0) ∧ (¬ t = 4 → c = 0) := by
  unfold mayB at h
  obtain ⟨h1, h2, h3, h5, h6, h7, _, h8⟩ := of_decide_eq_true h
  exact ⟨fun h => by have := h8 h; omega, h5⟩
theorem wrong_ne {t n : Int} {s : ByteArray} {b : Bool} {c : Int} (h : ¬ (mayB t n s b c = true ∧ ¬ t = 4)) : (wrongC t n s b c != 0) = true := by
  by_cases hm : mayB t n s b c = true
  · have h4 : t = 4 := Decidable.byContradiction fun k => h ⟨hm, k⟩
    rw [wrong_t hm]; simpa using (may_c hm).1 h4
  · rw [wrong_f (by simpa using hm)]; rfl
theorem wrong_0 {t n : Int} {s : ByteArray} {b : Bool} {c : Int} (hm : mayB t n s b c = true) (h4 : ¬ t = 4) : wrongC t n s b c = 0 := by
  rw [wrong_t hm]; exact (may_c hm).2 h4
theorem toList_iff (s s' : ByteArray) : s = s' ↔ s.toList = s'.toList := ⟨fun h => by rw [h], toList_inj⟩
theorem sameV (t n : Int) (s : ByteArray) (b : Bool) (c : Int) (t' n' : Int) (s' : ByteArray) (b' : Bool) (c' : Int) (w : World) : Calls Tryz.prog 124 #[(.agg #[.int .i64 (t), .int .i64 (n), .string s, .bool b, .int .i64 (c)]), (.agg #[.int .i64 (t'), .int .i64 (n'), .string s', .bool b', .int .i64 (c')])] w fun e w' => e = .returned (.bool (sameB t n s b c t' n' s' b' c')) ∧ Below w.heap.size w w' := by
  have heq := eqv t n s b c t' n' s' b' c'
  go_enter Tryz.func124, Tryz.ntmps124
  go_wp2
  go_ret
  exact ⟨rfl, (bal _ _).alloc (by simp) _⟩
theorem rsameV (t n : Int) (s : ByteArray) (b : Bool) (c : Int) (t' n' : Int) (s' : ByteArray) (b' : Bool) (c' : Int) (w : World) : Calls Tryz.prog 63 #[(.agg #[.int .i64 (t), .int .i64 (n), .string s, .bool b, .int .i64 (c)]), (.agg #[.int .i64 (t'), .int .i64 (n'), .string s', .bool b', .int .i64 (c')])] w fun e w' => e = .returned (.bool (sameB t n s b c t' n' s' b' c')) ∧ Below w.heap.size w w' := by
  go_enter Tryz.func63, Tryz.ntmps63
  go_wp2
  all_goals go_ret
  all_goals exact ⟨retB (by go_light; unfold sameB; simp_all [toList_iff]; try rfl), (bal _ _).alloc (by simp) _⟩
end Go.Proofs.YtcgcnpcimfaecaaGreatDoor
