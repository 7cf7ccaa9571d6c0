/- The contract of aggs.wholes, both ways; the numbers of the functions that the table names. No condition. -/
import Derived.Test.YtmfbplicakappaaGreatDoorQGTv
import Derived.Test.YtmfbplicakappaaGreatDoorQGN
namespace Go.Proofs.YtmfbplicakappaaGreatDoor
open Go.RowKit
set_option linter.all false
theorem wholes_ok (w : World) (v : Value) (l : List Ag) (h : AV w v l) (hN : Hid (Nums l)) (h0 : 0 < l.length) (h16 : l.length ≤ 16) (p : ByteArray) (mo : Int) (st : Bool) (fp : Fn) (fc fl : Array Value) (hp : 0 < p.size) (hp2 : p.size ≤ 16) (hF : firstN (nIx p l) = 0) :
    Calls Tryz.prog 29 #[.agg #[.string p, .int .i64 mo, .bool st, .func fp fc fl], v] w fun e w' => (∃ up m uc, e = .returned (.tuple #[.slice up m uc, .int .i64 0]) ∧ Hid (Row icell 1 2 w' 0 (.slice up m uc) ((nIx p l).map aI))) ∧ Below w.heap.size w w' := by
  obtain ⟨q, c, rfl, hc, hf⟩ := h
  obtain ⟨b, o, rfl, hlt, HA⟩ := hf h0
  refine (wholes_y w b o c l.length l hlt HA rfl hc h0 (by omega) hN h16 p mo st fp fc fl hp hp2).mono ?_
  rintro e w' ⟨⟨_, u, rfl, h1⟩ | ⟨hn, _⟩, hb⟩
  · obtain ⟨up, uc, rfl, _, _⟩ := Row.slice h1
    exact ⟨⟨up, _, uc, rfl, Row.mono h1 (Nat.zero_le _)⟩, hb⟩
  · exact absurd hF hn
theorem tak_len {p : ByteArray} {mo : Int} {l : List Bool} (h : takB p mo l = true) : p.size ≤ l.length ∧ (l.length : Int) ≤ mo := by
  unfold takB at h
  simp only [Bool.and_eq_true, decide_eq_true_eq] at h
  exact h.1
def fidI (k : Nat) : FuncId := [110, 110, 110, 110, 110, 110, 110, 86, 87, 88, 89, 90, 91, 92, 93, 94, 95, 96].getD k 0
theorem callf_ofAll_1 (args : Array Value) (W : World) : (callFunc 110 args).run Tryz.prog W = .ok (.enter 110 args) W := by kernel_rfl
theorem callf_countFilled (args : Array Value) (W : World) : (callFunc 86 args).run Tryz.prog W = .ok (.enter 86 args) W := by kernel_rfl
theorem callf_countBlank (args : Array Value) (W : World) : (callFunc 87 args).run Tryz.prog W = .ok (.enter 87 args) W := by kernel_rfl
theorem callf_countSame (args : Array Value) (W : World) : (callFunc 88 args).run Tryz.prog W = .ok (.enter 88 args) W := by kernel_rfl
theorem callf_sumWhere (args : Array Value) (W : World) : (callFunc 89 args).run Tryz.prog W = .ok (.enter 89 args) W := by kernel_rfl
theorem callf_matched (args : Array Value) (W : World) : (callFunc 90 args).run Tryz.prog W = .ok (.enter 90 args) W := by kernel_rfl
theorem callf_lookedUp (args : Array Value) (W : World) : (callFunc 91 args).run Tryz.prog W = .ok (.enter 91 args) W := by kernel_rfl
theorem callf_indexed (args : Array Value) (W : World) : (callFunc 92 args).run Tryz.prog W = .ok (.enter 92 args) W := by kernel_rfl
theorem callf_fromGreatest (args : Array Value) (W : World) : (callFunc 93 args).run Tryz.prog W = .ok (.enter 93 args) W := by kernel_rfl
theorem callf_joined (args : Array Value) (W : World) : (callFunc 94 args).run Tryz.prog W = .ok (.enter 94 args) W := by kernel_rfl
theorem callf_countRows (args : Array Value) (W : World) : (callFunc 95 args).run Tryz.prog W = .ok (.enter 95 args) W := by kernel_rfl
theorem callf_countCols (args : Array Value) (W : World) : (callFunc 96 args).run Tryz.prog W = .ok (.enter 96 args) W := by kernel_rfl
theorem callf (k : Nat) (h : k < 18) (args : Array Value) (W : World) : (callFunc (fidI k) args).run Tryz.prog W = .ok (.enter (fidI k) args) W := by
  match k, h with
  | 0, _ => exact callf_ofAll_1 args W
  | 1, _ => exact callf_ofAll_1 args W
  | 2, _ => exact callf_ofAll_1 args W
  | 3, _ => exact callf_ofAll_1 args W
  | 4, _ => exact callf_ofAll_1 args W
  | 5, _ => exact callf_ofAll_1 args W
  | 6, _ => exact callf_ofAll_1 args W
  | 7, _ => exact callf_countFilled args W
  | 8, _ => exact callf_countBlank args W
  | 9, _ => exact callf_countSame args W
  | 10, _ => exact callf_sumWhere args W
  | 11, _ => exact callf_matched args W
  | 12, _ => exact callf_lookedUp args W
  | 13, _ => exact callf_indexed args W
  | 14, _ => exact callf_fromGreatest args W
  | 15, _ => exact callf_joined args W
  | 16, _ => exact callf_countRows args W
  | 17, _ => exact callf_countCols args W
  | j + 18, h => exact absurd h (by omega)
theorem fv_p (k : Nat) (h : k < 18) (h7 : 7 ≤ k) (b0 b1 b2 b3 b4 b5 b6 : Nat) : fvI k b0 b1 b2 b3 b4 b5 b6 = .func (.func (fidI k)) #[] #[] := by
  match k, h, h7 with
  | 7, _, _ => rfl
  | 8, _, _ => rfl
  | 9, _, _ => rfl
  | 10, _, _ => rfl
  | 11, _, _ => rfl
  | 12, _, _ => rfl
  | 13, _, _ => rfl
  | 14, _, _ => rfl
  | 15, _, _ => rfl
  | 16, _, _ => rfl
  | 17, _, _ => rfl
  | 0, _, h7 => exact absurd h7 (by decide)
  | 1, _, h7 => exact absurd h7 (by decide)
  | 2, _, h7 => exact absurd h7 (by decide)
  | 3, _, h7 => exact absurd h7 (by decide)
  | 4, _, h7 => exact absurd h7 (by decide)
  | 5, _, h7 => exact absurd h7 (by decide)
  | 6, _, h7 => exact absurd h7 (by decide)
  | j + 18, h, _ => exact absurd h (by omega)
/-- What lies in the box of a function of all numbers. -/
def AnsB (k : Nat) (w : World) (b : Nat) : Prop := match k with
  | 0 => AllV w (.func (.func 78) #[] #[]) b
  | 1 => AllV w (.func (.func 79) #[] #[]) b
  | 2 => SomeV w (.func (.func 81) #[] #[]) b
  | 3 => SomeV w (.func (.func 82) #[] #[]) b
  | 4 => SomeV w (.func (.func 83) #[] #[]) b
  | 5 => SomeV w (.func (.func 84) #[] #[]) b
  | 6 => AllV w (.func (.func 85) #[] #[]) b
  | _ => False
theorem fv_c (k : Nat) (h7 : k < 7) (b0 b1 b2 b3 b4 b5 b6 : Nat) (w : World) (hT : TabW b0 b1 b2 b3 b4 b5 b6 w) : ∃ b, fvI k b0 b1 b2 b3 b4 b5 b6 = .func (.func (fidI k)) #[] #[.pointer (some ⟨b, 0, none⟩)] ∧ AnsB k w b := by
  match k, h7 with
  | 0, _ => exact ⟨b0, rfl, hT.h0⟩
  | 1, _ => exact ⟨b1, rfl, hT.h1⟩
  | 2, _ => exact ⟨b2, rfl, hT.h2⟩
  | 3, _ => exact ⟨b3, rfl, hT.h3⟩
  | 4, _ => exact ⟨b4, rfl, hT.h4⟩
  | 5, _ => exact ⟨b5, rfl, hT.h5⟩
  | 6, _ => exact ⟨b6, rfl, hT.h6⟩
  | j + 7, h => exact absurd h (by omega)
theorem AnsB.keep {k : Nat} {w w' : World} {b : Nat} (h : AnsB k w b) (hb : Below w.heap.size w w') : AnsB k w' b := by
  unfold AnsB at h ⊢
  split at h <;> first | exact AllV.keep h hb | exact SomeV.keep h hb | exact h
end Go.Proofs.YtmfbplicakappaaGreatDoor
