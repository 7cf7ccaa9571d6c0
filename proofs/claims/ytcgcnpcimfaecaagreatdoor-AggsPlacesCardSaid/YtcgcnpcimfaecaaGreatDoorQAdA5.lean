/- The contracts of Before (of package addr and of the document's answer): of every two cells whether one stands ahead of the other. New memory alone is made. No condition. Entries of rectangles: how they lie in memory, and which may be. No function. -/
import Derived.Test.YtcgcnpcimfaecaaGreatDoorQNT4
import Derived.Test.YtcgcnpcimfaecaaGreatDoorQAdA2
namespace Go.Proofs.YtcgcnpcimfaecaaGreatDoor.Ad
open Go.RowKit
set_option linter.all false
/-- One cell stands ahead of another. -/
def befB (a b a' b' : Int) : Bool := decide (a < a' ∨ (a = a' ∧ b < b'))
theorem befB_t {a b a' b' : Int} (h : a < a' ∨ (a = a' ∧ b < b')) : befB a b a' b' = true := by simpa [befB] using h
theorem befB_f {a b a' b' : Int} (h : ¬ (a < a' ∨ (a = a' ∧ b < b'))) : befB a b a' b' = false := by simpa [befB] using h
theorem befB_is (a b a' b' : Int) : (befB a b a' b' = true) = (a < a' ∨ (a = a' ∧ b < b')) := by simp [befB]
theorem bef_any (a b a' b' : Int) (w : World) : Calls Tryz.prog 101 #[.agg #[.int .i64 a, .int .i64 b], .agg #[.int .i64 a', .int .i64 b']] w fun e w' => e = .returned (.bool (befB a b a' b')) ∧ Below w.heap.size w w' := by
  by_cases h1 : a < a'
  · rw [befB_t (.inl h1)]
    go_enter Tryz.func101, Tryz.ntmps101
    go_wp2
    go_ret
    exact ⟨rfl, (bal _ _).alloc (by simp) _⟩
  · have h1' : decide (a < a') = false := by simpa using h1
    by_cases h2 : (a == a') = true
    · have h2' : a = a' := by simpa using h2
      have e : befB a b a' b' = decide (b < b') := by rw [Bool.eq_iff_iff, befB_is, decide_eq_true_eq]; omega
      rw [e]
      clear h2'
      go_enter Tryz.func101, Tryz.ntmps101
      go_wp2
      all_goals go_ret
      all_goals exact ⟨rfl, (bal _ _).alloc (by simp) _⟩
    · have h2' : (a == a') = false := by simpa using h2
      have h3 : ¬ a = a' := by simpa using h2
      rw [befB_f (by omega)]
      clear h2
      go_enter Tryz.func101, Tryz.ntmps101
      go_wp2
      all_goals go_ret
      all_goals exact ⟨rfl, (bal _ _).alloc (by simp) _⟩
theorem rbef_any (a b a' b' : Int) (w : World) : Calls Tryz.prog 52 #[.agg #[.int .i64 a, .int .i64 b], .agg #[.int .i64 a', .int .i64 b']] w fun e w' => e = .returned (.bool (befB a b a' b')) ∧ Below w.heap.size w w' := by
  by_cases h1 : a < a'
  · rw [befB_t (.inl h1)]
    go_enter Tryz.func52, Tryz.ntmps52
    go_wp2
    go_ret
    exact ⟨rfl, (bal _ _).alloc (by simp) _⟩
  · have h1' : decide (a < a') = false := by simpa using h1
    by_cases h2 : (a == a') = true
    · have h2' : a = a' := by simpa using h2
      have e : befB a b a' b' = decide (b < b') := by rw [Bool.eq_iff_iff, befB_is, decide_eq_true_eq]; omega
      rw [e]
      clear h2'
      go_enter Tryz.func52, Tryz.ntmps52
      go_wp2
      all_goals go_ret
      all_goals exact ⟨rfl, (bal _ _).alloc (by simp) _⟩
    · have h2' : (a == a') = false := by simpa using h2
      have h3 : ¬ a = a' := by simpa using h2
      rw [befB_f (by omega)]
      clear h2
      go_enter Tryz.func52, Tryz.ntmps52
      go_wp2
      all_goals go_ret
      all_goals exact ⟨rfl, (bal _ _).alloc (by simp) _⟩
end Go.Proofs.YtcgcnpcimfaecaaGreatDoor.Ad
namespace Go.Proofs.YtcgcnpcimfaecaaGreatDoor
open Go.RowKit
set_option linter.all false
/-- An entry: its cell and its value. -/
structure En where
  r : Int
  k : Int
  t : Int
  n : Int
  s : ByteArray
  b : Bool
  c : Int
def En.cells (a : En) : Array Value := #[.int .i64 a.r, .int .i64 a.k, .int .i64 a.t, .int .i64 a.n, .string a.s, .bool a.b, .int .i64 a.c]
/-- The value with all fields zero. -/
def vz5 (t n : Int) (s : ByteArray) (b : Bool) (c : Int) : Bool := decide (t = 0 ∧ n = 0 ∧ s = ⟨#[]⟩ ∧ b = false ∧ c = 0)
/-- Whether an entry may stand at its place: in the rectangle, behind the one ahead. -/
def entA (r0 r1 r2 r3 : Int) (es : List En) (j : Nat) (x : En) : Bool := Ad.inB r0 r1 r2 r3 x.r x.k && mayB x.t x.n x.s x.b x.c && (match es[j - 1]? with | some p => decide (j = 0) || Ad.befB p.r p.k x.r x.k | none => true)
def entsB (r0 r1 r2 r3 : Int) (es : List En) : Bool := es.zipIdx.all (fun q => entA r0 r1 r2 r3 es q.2 q.1)
theorem ents_all (r0 r1 r2 r3 : Int) (es : List En) : entsB r0 r1 r2 r3 es = true ↔ ∀ j x, es[j]? = some x → entA r0 r1 r2 r3 es j x = true := by
  unfold entsB
  rw [List.all_eq_true]
  constructor
  · intro h j x hj
    exact h (x, j) (List.mem_zipIdx_iff_getElem?.2 hj)
  · intro h q hq
    exact h q.2 q.1 (List.mem_zipIdx_iff_getElem?.1 hq)
theorem ents_no {r0 r1 r2 r3 : Int} {es : List En} {i : Nat} {x : En} (h : es[i]? = some x) (hx : entA r0 r1 r2 r3 es i x = false) : entsB r0 r1 r2 r3 es = false := by
  cases hc : entsB r0 r1 r2 r3 es
  · rfl
  · rw [(ents_all r0 r1 r2 r3 es).1 hc i x h] at hx; cases hx
theorem ents_nil (r0 r1 r2 r3 : Int) : entsB r0 r1 r2 r3 [] = true := rfl
/-- An argument with its entries stands as it was read. -/
structure AgE (w : World) (p : Ag × List En) : Prop where
  vw : View En.cells 7 w (.slice p.1.ep p.1.en p.1.ec) p.2
  en : ∀ x ∈ p.2, I64 x.n
  n : I64 p.1.n
  few : p.2.length ≤ 1099511627776
theorem AgE.keep {w w' : World} {p : Ag × List En} (h : AgE w p) (hb : Below w.heap.size w w') : AgE w' p := ⟨View.keep h.vw hb, h.en, h.n, h.few⟩
/-- Whether an argument may not be. -/
def mnB (p : Ag × List En) : Bool := if p.1.many then !vz5 p.1.t p.1.n p.1.s p.1.b p.1.c || !Ad.mayR p.1.r0 p.1.r1 p.1.r2 p.1.r3 || !entsB p.1.r0 p.1.r1 p.1.r2 p.1.r3 p.2 else nosB p.1
end Go.Proofs.YtcgcnpcimfaecaaGreatDoor
