/- The contract of aggs.items (an iterator) and of aggs.firstFault: the first fault of the items. New memory alone is made. The contract of aggs.table: all functions, each with the kinds of its places, how many arguments it takes at most, whether faults of its items come first, and what is called. New memory alone is made. -/
import Derived.Test.YtcgcnpcimfaecaaGreatDoorQGI
import Derived.Maps.OwnIn
import Derived.Maps.AppendAt
import Derived.Test.YtcgcnpcimfaecaaGreatDoorQNT1
import Derived.Test.YtcgcnpcimfaecaaGreatDoorQNR
import Derived.Deep.MidRow
import Derived.Laws.EntriesVeiled
import Derived.Laws.Tables
namespace Go.Proofs.YtcgcnpcimfaecaaGreatDoor
open Go.Shelf Go.RowKit
set_option linter.all false
attribute [local go_sem] Oper.semAt_some
theorem set_other {W : World} {a : Addr} {v : Value} {k : Nat} (h : k ≠ a.block) : (W.setCell a v).heap[k]? = W.heap[k]? := Below.heap_setCell W a v k h
theorem set_size (W : World) (a : Addr) (v : Value) : (W.setCell a v).heap.size = W.heap.size := by simp [World.setCell]
theorem Turn.same {Ft : Nat → Prop} {A : World} (hF : ∀ b, Ft b → b < A.heap.size) : Turn Ft Ft A A := Turn.of_below (Below.refl _ _) (Nat.le_refl _) hF
theorem Turn.set {Ft Ft' : Nat → Prop} {A W : World} (h : Turn Ft Ft' A W) {a : Addr} (ha : Ft a.block) (v : Value) : Turn Ft Ft' A (W.setCell a v) :=
  ⟨h.os, h.tape, h.output, by rw [set_size]; exact h.size, fun i hi hk => (set_other (fun e => hk (by rw [e]; exact ha))).trans (h.block i hi hk), fun i hi => ⟨(h.foot i hi).1, by rw [set_size]; exact (h.foot i hi).2⟩⟩
theorem items_0 (B : Nat) (wB w0 : World) (p : Option Addr) (ac : Nat) (hB : w0.cell? ⟨B, 0, none⟩ = some (.slice p 0 ac)) (hs0 : ∀ q, q < wB.heap.size → w0.heap[q]? = wB.heap[q]?) :
    Gives Tryz.prog 104 #[.pointer (some ⟨B, 0, none⟩)] encI (itms []) (fun k => k = B ∨ k < wB.heap.size) w0 := by
  intro l J Jx Ft0 W hown hF0 hJ hJx hY h0 m
  obtain ⟨hB1, hB2, hB3⟩ := hown B (.inl rfl)
  have hc0 : W.cell? ⟨B, 0, none⟩ = some (.slice p 0 ac) := (World.cell?_of_block hB1).trans hB
  have HY : Hid _ := hY
  have HJ : Hid _ := hJ
  have HJx : Hid _ := hJx
  clear hY hJ hJx hown hB hB1 hs0
  refine callsIn_wide.2 ((callsIn_wide (n := 5)).1 ?_)
  refine callsIn_of_wp Tryz.func104 rfl trivial ?_ rfl
  simp only [Tryz.ntmps104, List.size_toArray, List.length_cons, List.length_nil, Nat.reduceAdd, Nat.reduceSub, Array.replicate_succ, Array.replicate_zero, List.push_toArray, List.append_toArray, List.nil_append, List.cons_append]
  gi_wp2
  gi_loopw [9] (fun vv wr => vv = .int .i64 0 ∧ wr = W) (fun _ _ => 0)
  case atStart => exact ⟨rfl, rfl⟩
  case round =>
    obtain ⟨rfl, rfl⟩ := hrel
    gi_wp2
    refine bodyPost_end (results_none rfl _ _ _) rfl ?_
    first | exact ⟨⟨_, rfl⟩, Ft0, Nat.le_refl _, hF0, fun b h => .inl h, .inl h0⟩ | exact ⟨⟨_, rfl⟩, Nat.le_refl _, Ft0, hF0, fun b h => .inl h, .inl h0⟩
/-- The items, gone through by their iterator, wherever the arguments lie. -/
theorem items_gives (L : List (Ag × List En)) (B : Nat) (wB w0 : World) (v : Value) (hB : w0.cell? ⟨B, 0, none⟩ = some v) (hv : AV wB v (L.map Prod.fst)) (h40 : L.length ≤ 1099511627776) (hE : ∀ p ∈ L, AgE wB p) (hs0 : ∀ q, q < wB.heap.size → w0.heap[q]? = wB.heap[q]?) :
    Gives Tryz.prog 104 #[.pointer (some ⟨B, 0, none⟩)] encI (itms L) (fun k => k = B ∨ k < wB.heap.size) w0 := by
  obtain ⟨p, c, rfl, hc, hf⟩ := hv
  rw [List.length_map] at hc hf hB
  by_cases h0 : 0 < L.length
  · obtain ⟨b, o, rfl, hlt, HA⟩ := hf h0
    exact items_y L B b o L.length c wB w0 hB hlt HA rfl hc h40 hE hs0
  · have e : L = [] := List.eq_nil_of_length_eq_zero (by omega)
    subst e
    exact items_0 B wB w0 p c hB hs0
theorem own_put5 {W : World} {b : Nat} {x0 x1 x2 x3 x4 y0 y1 y2 y3 y4 : Value} (h : Own W b #[x0, x1, x2, x3, x4]) : Own (((((W.setCell ⟨b, 0, none⟩ y0).setCell ⟨b, 1, none⟩ y1).setCell ⟨b, 2, none⟩ y2).setCell ⟨b, 3, none⟩ y3).setCell ⟨b, 4, none⟩ y4) b #[y0, y1, y2, y3, y4] :=
  own_put (own_put (own_put (own_put (own_put h (k := 0) (by simp)) (k := 1) (by simp)) (k := 2) (by simp)) (k := 3) (by simp)) (k := 4) (by simp)
theorem put5_other {W : World} {b k : Nat} {y0 y1 y2 y3 y4 : Value} (h : k ≠ b) : (((((W.setCell ⟨b, 0, none⟩ y0).setCell ⟨b, 1, none⟩ y1).setCell ⟨b, 2, none⟩ y2).setCell ⟨b, 3, none⟩ y3).setCell ⟨b, 4, none⟩ y4).heap[k]? = W.heap[k]? := by
  rw [set_other h, set_other h, set_other h, set_other h, set_other h]
theorem below_putObj {b : Nat} {A W : World} (h : Below b A W) {D : Nat} (hD : b ≤ D) (o : Obj) : Below b A (W.putObj D o) :=
  h.trans ⟨rfl, rfl, rfl, by rw [World.putObj_size]; exact Nat.le_refl _, fun y hy => World.putObj_heap_other (by omega)⟩
theorem below_put5 {b n : Nat} {A W : World} (h : Below n A W) (hb : n ≤ b) (y0 y1 y2 y3 y4 : Value) : Below n A (((((W.setCell ⟨b, 0, none⟩ y0).setCell ⟨b, 1, none⟩ y1).setCell ⟨b, 2, none⟩ y2).setCell ⟨b, 3, none⟩ y3).setCell ⟨b, 4, none⟩ y4) :=
  (((((h.setCell (p := ⟨b, 0, none⟩) hb _).setCell (p := ⟨b, 1, none⟩) hb _).setCell (p := ⟨b, 2, none⟩) hb _).setCell (p := ⟨b, 3, none⟩) hb _).setCell (p := ⟨b, 4, none⟩) hb _)
theorem own_put1 {W : World} {b : Nat} {x y : Value} (h : Own W b #[x]) : Own (W.setCell ⟨b, 0, none⟩ y) b #[y] := own_put h (k := 0) (by simp)
/-- The first fault of some items. -/
def firstI (l : List It) : Option It := l.find? (fun x => x.t == 4)
def itV (x : It) : Value := .agg #[.int .i64 x.t, .int .i64 x.n, .string x.s, .bool x.b, .int .i64 x.c]
def faultI (r : Option It) : Value := match r with
  | some x => .tuple #[itV x, .bool true]
  | none => .tuple #[v0, .bool false]
theorem firstI_take {l : List It} {i : Nat} {x : It} (h : l[i]? = some x) (h1 : firstI (l.take i) = none) (h2 : (x.t == 4) = false) : firstI (l.take (i + 1)) = none := by
  unfold firstI at h1 ⊢
  rw [List.take_succ, h, List.find?_append, h1]; simp [h2]
theorem firstI_at {l : List It} {i : Nat} {x : It} (h : l[i]? = some x) (h1 : firstI (l.take i) = none) (h2 : (x.t == 4) = true) : firstI l = some x := by
  have e : l = l.take i ++ x :: l.drop (i + 1) := by
    obtain ⟨hi, rfl⟩ := List.getElem?_eq_some_iff.1 h
    rw [List.getElem_cons_drop, List.take_append_drop]
  unfold firstI at h1 ⊢
  rw [e, List.find?_append, h1]; simp [h2]
theorem items_mk (q : Option Addr) (n c : Nat) (w : World) : Calls Tryz.prog 61 #[.slice q n c] w fun e w' => e = .returned (.func (.func 104) #[] #[.pointer (some ⟨w.heap.size, 0, none⟩)]) ∧ w' = w.alloc (.cells #[.slice q n c] 22) := by
  go_enter Tryz.func61, Tryz.ntmps61
  go_wp2
  go_ret
  exact ⟨rfl, rfl⟩
def FtF (b : Nat) : Nat → Prop := fun q => q = b ∨ q = b + 1
set_option maxHeartbeats 4000000 in
set_option maxRecDepth 100000 in
theorem ff_any (w : World) (v : Value) (L : List (Ag × List En)) (hv : AV w v (L.map Prod.fst)) (h40 : L.length ≤ 1099511627776) (hE : Hid (∀ p ∈ L, AgE w p)) :
    Calls Tryz.prog 30 #[v] w fun e w' => e = .returned (faultI (firstI (itms L))) ∧ Below w.heap.size w w' := by
  have hsl : ∃ q n c, v = .slice q n c := by obtain ⟨q, c, e, _⟩ := hv; exact ⟨q, _, c, e⟩
  obtain ⟨vq, vn, vc, rfl⟩ := hsl
  refine (callsIn_wide (n := 9)).1 ?_
  refine callsIn_of_wp_marks Tryz.func30 rfl trivial ?_ rfl
  simp only [Tryz.ntmps30, List.size_toArray, List.length_cons, List.length_nil, Nat.reduceAdd, Nat.reduceSub, Array.replicate_succ, Array.replicate_zero, List.push_toArray, List.append_toArray, List.nil_append, List.cons_append]
  have hlm := fun w => items_mk vq vn vc w
  gi_wp2_with (refine ⟨trivial, ?_⟩; gi_at_call 61; refine (callsIn_wide.2 (hlm _)).mono ?_; rintro e w1 ⟨rfl, rfl⟩)
  clear hlm
  obtain ⟨b, hb⟩ : ∃ b, w.heap.size = b := ⟨_, rfl⟩
  obtain ⟨V, hV⟩ : ∃ V, (((w.alloc (.cells #[.int .i64 0, .int .i64 0, .string ⟨#[]⟩, .bool false, .int .i64 0] 26)).alloc (.cells #[.bool false] 4)).alloc (.cells #[.slice vq vn vc] 22)) = V := ⟨_, rfl⟩
  have v0 : Own V b #[.int .i64 0, .int .i64 0, .string ⟨#[]⟩, .bool false, .int .i64 0] := by rw [← hV, ← hb]; exact ((Own.new _ _ _).past _).past _
  have v1 : Own V (b + 1) #[.bool false] := by rw [← hV, ← hb]; exact (Own.at (by simp)).past _
  have v2 : Own V (b + 1 + 1) #[.slice vq vn vc] := by rw [← hV, ← hb]; exact Own.at (by simp)
  have hVs : V.heap.size = b + 3 := by rw [← hV, ← hb]; simp
  have hBV : Below b w V := by
    rw [← hV, ← hb]
    exact (((Below.refl _ w).alloc (Nat.le_refl _) _).alloc (by simp) _).alloc (by simp; omega) _
  rw [hV, hb]
  have hgv := items_gives L (b + 1 + 1) w V (.slice vq vn vc) (v2.cell 0) hv h40 hE.out (fun q hq => hBV.block q (by omega))
  have HGV : Hid _ := hgv
  clear hV hgv
  refine range_out (gf := 104) (lb := #[.pointer (some ⟨b + 1 + 1, 0, none⟩)]) rfl (enters_of Tryz.func104 (by kernel_rfl) rfl)
    HGV.out (fun _ => rfl) (FtF b) ?own ?F0
    (fun k Ft A => Own A b #[.int .i64 0, .int .i64 0, .string ⟨#[]⟩, .bool false, .int .i64 0] ∧ Own A (b + 1) #[.bool false] ∧ Ft = FtF b ∧ Below b w A ∧ Hid (firstI ((itms L).take k) = none))
    (fun c k Ft A => c = .ret ∧ ∃ x : It, Own A b #[.int .i64 x.t, .int .i64 x.n, .string x.s, .bool x.b, .int .i64 x.c] ∧ Own A (b + 1) #[.bool true] ∧ Ft = FtF b ∧ Below b w A ∧ Hid (firstI (itms L) = some x))
    ?hI ?hIx ?h0 ?round ?done ?stop
  case own =>
    rintro k (rfl | hk)
    · exact ⟨rfl, by rintro (h | h) <;> omega, by omega⟩
    · exact ⟨rfl, by rintro (h | h) <;> omega, by omega⟩
  case F0 => rintro k (h | h) <;> omega
  case hI =>
    rintro k Ft A A' ⟨o0, o1, rfl, hB, hh⟩ hk
    have hsm : ∀ x, x < b + 3 → x < A.heap.size → A'.heap[x]? = A.heap[x]? := fun x h1 h2 => hk.block x h2 (.inl (by omega))
    exact ⟨o0.of_block (hsm _ (by omega) o0.lt), o1.of_block (hsm _ (by omega) o1.lt), rfl, hB.trans ⟨hk.os, hk.tape, hk.output, hk.size, fun x hx => hsm x (by omega) (by have := o0.lt; omega)⟩, hh⟩
  case hIx =>
    rintro c k Ft A A' ⟨rfl, x, o0, o1, rfl, hB, hh⟩ hk
    have hsm : ∀ x, x < b + 3 → x < A.heap.size → A'.heap[x]? = A.heap[x]? := fun x h1 h2 => hk.block x h2 (.inl (by omega))
    exact ⟨rfl, x, o0.of_block (hsm _ (by omega) o0.lt), o1.of_block (hsm _ (by omega) o1.lt), rfl, hB.trans ⟨hk.os, hk.tape, hk.output, hk.size, fun x hx => hsm x (by omega) (by have := o0.lt; omega)⟩, hh⟩
  case h0 => exact ⟨v0, v1, rfl, hBV, rfl⟩
  case done =>
    rintro D Ft A hD hDA ⟨o0, o1, rfl, hB, hh⟩ hFD hlt hfr hK
    have c0 := o0.cell
    have f0 := o0.fro
    have l0 := o0.lt
    have c1 := o1.cell
    have f1 := o1.fro
    have l1 := o1.lt
    have hnone : firstI (itms L) = none := by have := hh.out; rwa [List.take_length] at this
    have HNO : Hid _ := hnone
    have HK : Hid _ := hK
    clear hnone hK
    gi_wp2
    have W6 := own_put5 (y0 := .int .i64 0) (y1 := .int .i64 0) (y2 := .string ⟨#[]⟩) (y3 := .bool false) (y4 := .int .i64 0) o0
    have W7 := own_put1 (y := .bool false) (o1.of_block (put5_other (y0 := .int .i64 0) (y1 := .int .i64 0) (y2 := .string ⟨#[]⟩) (y3 := .bool false) (y4 := .int .i64 0) (show b + 1 ≠ b by omega)))
    have W8 := W6.of_block (set_other (a := ⟨b + 1, 0, none⟩) (v := .bool false) (show b ≠ b + 1 by omega))
    refine ⟨by simp, .inl ⟨_, _, rfl, run_takeDeferred ((set_other (by show D ≠ b + 1; omega)).trans ((put5_other (by omega)).trans HK.out)), ?_⟩⟩
    have r0 := Own.of_block W8 (World.putObj_heap_other (r := D) (o := .deferred none) (show b ≠ D by omega))
    have r1 := Own.of_block W7 (World.putObj_heap_other (r := D) (o := .deferred none) (show b + 1 ≠ D by omega))
    clear W6 W7 W8 c0 f0 l0 c1 f1 l1
    have c0 := r0.cell
    have f0 := r0.fro
    have l0 := r0.lt
    have c1 := r1.cell
    have f1 := r1.fro
    have l1 := r1.lt
    refine ⟨.tuple #[Go.Proofs.YtcgcnpcimfaecaaGreatDoor.v0, .bool false], by simp [results, Tryz.results30, go_sem, c0, f0, l0, c1, f1, l1, Go.Proofs.YtcgcnpcimfaecaaGreatDoor.v0], ?_, ?_⟩
    · rw [HNO.out]; rfl
    · exact below_putObj ((below_put5 hB (Nat.le_refl _) _ _ _ _ _).setCell (p := ⟨b + 1, 0, none⟩) (show b ≤ b + 1 by omega) _) (by omega) _
  case stop =>
    rintro D c k Ft A hD hDA hk ⟨rfl, x, o0, o1, rfl, hB, hh⟩ hFD hlt hfr hK
    have HK : Hid _ := hK
    clear hK
    gi_wp2
    refine ⟨by simp, .inl ⟨_, _, rfl, run_takeDeferred HK.out, ?_⟩⟩
    have r0 : Own (A.putObj D (.deferred none)) b #[.int .i64 x.t, .int .i64 x.n, .string x.s, .bool x.b, .int .i64 x.c] := o0.of_block (World.putObj_heap_other (by omega))
    have r1 : Own (A.putObj D (.deferred none)) (b + 1) #[.bool true] := o1.of_block (World.putObj_heap_other (by omega))
    have c0 := r0.cell
    have f0 := r0.fro
    have l0 := r0.lt
    have c1 := r1.cell
    have f1 := r1.fro
    have l1 := r1.lt
    refine ⟨.tuple #[itV x, .bool true], by simp [results, Tryz.results30, go_sem, c0, f0, l0, c1, f1, l1, itV], ?_, ?_⟩
    · rw [hh.out]; rfl
    · exact below_putObj hB (by omega) _
  case round =>
    rintro L' k x Ft A hx ⟨o0, o1, rfl, hB, hh⟩ hL hLA hFL hlt hfr
    unfold encI
    dsimp only
    gi_wp2
    refine ⟨bal _ _, fun W2 hset r hr => ?_⟩
    have hTL : A.heap.size ≠ L' := by omega
    have oT : Own W2 A.heap.size #[.int .i64 x.t, .int .i64 x.n, .string x.s, .bool x.b, .int .i64 x.c] := (Own.new A #[.int .i64 x.t, .int .i64 x.n, .string x.s, .bool x.b, .int .i64 x.c] 26).of_block (hset.block _ hTL)
    have hAW : ∀ y, y < A.heap.size → y ≠ L' → W2.heap[y]? = A.heap[y]? := fun y h1 h2 => (hset.block y h2).trans (Below.heap_alloc A _ y h1)
    replace o0 := o0.of_block (hAW _ o0.lt (by omega))
    replace o1 := o1.of_block (hAW _ o1.lt (by omega))
    have hz : W2.heap.size = A.heap.size + 1 := by rw [hset.size]; simp
    have hBW : Below b w W2 := hB.trans ⟨hset.os, hset.tape, hset.output, by omega, fun y hy => hAW y (by omega) (by omega)⟩
    have HX : Hid _ := hx
    clear hset hr r hB hx
    have hFW : ∀ q, FtF b q → q < W2.heap.size := by rintro q (h | h) <;> omega
    have c0 := o0.cell
    have f0 := o0.fro
    have l0 := o0.lt
    have c1 := o1.cell
    have f1 := o1.fro
    have l1 := o1.lt
    have cT := oT.cell
    have lT := oT.lt
    have HZ : Hid _ := hz
    clear hz
    cases hs : (x.t == 4)
    · have HS : Hid _ := hs
      gi_wp2
      exact ⟨FtF b, Turn.same hFW, o0, o1, rfl, hBW, firstI_take HX.out hh.out HS.out⟩
    · have HS : Hid _ := hs
      gi_wp2
      have hFb : FtF b b := .inl rfl
      have hFb1 : FtF b (b + 1) := .inr rfl
      have hq : b ≤ b := Nat.le_refl _
      refine ⟨FtF b, ((((((Turn.same hFW).set (a := ⟨b, 0, none⟩) hFb _).set (a := ⟨b, 1, none⟩) hFb _).set (a := ⟨b, 2, none⟩) hFb _).set (a := ⟨b, 3, none⟩) hFb _).set (a := ⟨b, 4, none⟩) hFb _).set (a := ⟨b + 1, 0, none⟩) hFb1 _, rfl, x, ?_, ?_, rfl, ?_, (show Hid _ from firstI_at HX.out hh.out HS.out)⟩
      · exact (own_put5 o0).of_block (set_other (a := ⟨b + 1, 0, none⟩) (show b ≠ b + 1 by omega))
      · exact own_put1 (o1.of_block (put5_other (show b + 1 ≠ b by omega)))
      · exact (below_put5 hBW (Nat.le_refl _) _ _ _ _ _).setCell (p := ⟨b + 1, 0, none⟩) (show b ≤ b + 1 by omega) _
end Go.Proofs.YtcgcnpcimfaecaaGreatDoor
namespace Go.Proofs.YtcgcnpcimfaecaaGreatDoor
open Go.RowKit
set_option linter.all false
theorem below_setCells {n : Nat} {w : World} {b : Nat} (hb : n ≤ b) : ∀ (vs : List Value) (o : Nat) (W : World), Below n w W → Below n w (W.setCells b o vs)
  | [], _, _, h => h
  | _ :: vs, o, W, h => below_setCells hb vs (o + 1) _ (h.setCell hb _)
theorem Own.there {W : World} {b n : Nat} {A : Array Value} (h : Own W b A) (hn : n ≤ A.size) : W.there b 0 n := fun j hj =>
  ⟨by rw [Nat.zero_add, h.cell, Array.getElem?_eq_getElem (by omega)]; rfl, h.fro _⟩
theorem results_cell1 {fn : Func} {p : Tmp} {ty : TypeId} (h : fn.results = #[.cell p ty]) (tmps : Array Value) (P : Program) (w : World) :
    (results fn tmps).run P w = ((asAddr (tmps.getD p undef)).run P w).andThen fun a w₁ => (loadVar ty a).run P w₁ := by
  simp only [results, h]
  simp [Sem.run_bind, Result.andThen]
/-- The function value at block b: what is called of all numbers. -/
def AllV (w : World) (f : Value) (b : Nat) : Prop := Own w b #[f]
/-- The like, but of no numbers nothing is found. -/
def SomeV (w : World) (f : Value) (b : Nat) : Prop := ∃ c : Nat, Own w b #[.func (.func 116) #[] #[.pointer (some ⟨c, 0, none⟩)]] ∧ Own w c #[f]
theorem AllV.keep {w w' : World} {f : Value} {b : Nat} (h : AllV w f b) (hb : Below w.heap.size w w') : AllV w' f b := Own.keep h hb
theorem SomeV.keep {w w' : World} {f : Value} {b : Nat} (h : SomeV w f b) (hb : Below w.heap.size w w') : SomeV w' f b := by
  obtain ⟨c, h1, h2⟩ := h
  exact ⟨c, h1.keep hb, h2.keep hb⟩
def clo (b : Nat) : Value := .func (.func 110) #[] #[.pointer (some ⟨b, 0, none⟩)]
theorem ofall (k : Nat) (lb : Array Value) (w : World) : Calls Tryz.prog 77 #[.func (.func k) #[] lb] w fun e w' => (∃ b, e = .returned (.func (.func 110) #[] #[.pointer (some ⟨b, 0, none⟩)]) ∧ AllV w' (.func (.func k) #[] lb) b) ∧ Below w.heap.size w w' := by
  go_enter Tryz.func77, Tryz.ntmps77
  go_wp2
  go_ret
  exact ⟨⟨w.heap.size, rfl, Own.new _ _ _⟩, by with_reducible (repeat' first | assumption | exact Below.refl _ _ | refine Below.drew ?_ | refine bdrewN ?_ _ | refine Below.setCell ?_ (by first | exact Nat.le_refl _ | (simp; done) | (simp; omega) | omega) _ | refine Below.alloc ?_ (by first | exact Nat.le_refl _ | (simp; done) | (simp; omega) | omega) _)⟩
theorem ofsome (k : Nat) (w : World) : Calls Tryz.prog 80 #[.func (.func k) #[] #[]] w fun e w' => (∃ b, e = .returned (.func (.func 110) #[] #[.pointer (some ⟨b, 0, none⟩)]) ∧ SomeV w' (.func (.func k) #[] #[]) b) ∧ Below w.heap.size w w' := by
  go_enter Tryz.func80, Tryz.ntmps80
  go_wp2_with (go_at_call 77; refine (ofall _ _ _).mono ?_; rintro e w1 ⟨⟨b, rfl, ha⟩, hb⟩)
  go_ret
  exact ⟨⟨b, rfl, _, ha, Own.keep (Own.new _ _ _) hb⟩, bup (by with_reducible (repeat' first | assumption | exact Below.refl _ _ | refine Below.drew ?_ | refine bdrewN ?_ _ | refine Below.setCell ?_ (by first | exact Nat.le_refl _ | (simp; done) | (simp; omega) | omega) _ | refine Below.alloc ?_ (by first | exact Nat.le_refl _ | (simp; done) | (simp; omega) | omega) _)) hb⟩
/-- All rows of the table. -/
def tabA (b0 b1 b2 b3 b4 b5 b6 : Nat) : Array Value := #[.string ⟨#[120]⟩, .int .i64 16, .bool true, .func (.func 110) #[] #[.pointer (some ⟨b0, 0, none⟩)], .string ⟨#[120]⟩, .int .i64 16, .bool true, .func (.func 110) #[] #[.pointer (some ⟨b1, 0, none⟩)], .string ⟨#[120]⟩, .int .i64 16, .bool true, .func (.func 110) #[] #[.pointer (some ⟨b2, 0, none⟩)], .string ⟨#[120]⟩, .int .i64 16, .bool true, .func (.func 110) #[] #[.pointer (some ⟨b3, 0, none⟩)], .string ⟨#[120]⟩, .int .i64 16, .bool true, .func (.func 110) #[] #[.pointer (some ⟨b4, 0, none⟩)], .string ⟨#[120]⟩, .int .i64 16, .bool true, .func (.func 110) #[] #[.pointer (some ⟨b5, 0, none⟩)], .string ⟨#[120]⟩, .int .i64 16, .bool false, .func (.func 110) #[] #[.pointer (some ⟨b6, 0, none⟩)], .string ⟨#[120]⟩, .int .i64 16, .bool false, .func (.func 86) #[] #[], .string ⟨#[114]⟩, .int .i64 1, .bool false, .func (.func 87) #[] #[], .string ⟨#[114, 118]⟩, .int .i64 2, .bool false, .func (.func 88) #[] #[], .string ⟨#[114, 118, 114]⟩, .int .i64 3, .bool false, .func (.func 89) #[] #[], .string ⟨#[118, 114]⟩, .int .i64 2, .bool false, .func (.func 90) #[] #[], .string ⟨#[118, 114, 114]⟩, .int .i64 3, .bool false, .func (.func 91) #[] #[], .string ⟨#[114, 110, 110]⟩, .int .i64 3, .bool false, .func (.func 92) #[] #[], .string ⟨#[114, 110]⟩, .int .i64 2, .bool true, .func (.func 93) #[] #[], .string ⟨#[118, 120]⟩, .int .i64 16, .bool true, .func (.func 94) #[] #[], .string ⟨#[114]⟩, .int .i64 1, .bool false, .func (.func 95) #[] #[], .string ⟨#[114]⟩, .int .i64 1, .bool false, .func (.func 96) #[] #[]]
/-- The boxes of what is called. -/
structure TabW (b0 b1 b2 b3 b4 b5 b6 : Nat) (w : World) : Prop where
  h0 : AllV w (.func (.func 78) #[] #[]) b0
  h1 : AllV w (.func (.func 79) #[] #[]) b1
  h2 : SomeV w (.func (.func 81) #[] #[]) b2
  h3 : SomeV w (.func (.func 82) #[] #[]) b3
  h4 : SomeV w (.func (.func 83) #[] #[]) b4
  h5 : SomeV w (.func (.func 84) #[] #[]) b5
  h6 : AllV w (.func (.func 85) #[] #[]) b6
theorem TabW.keep {b0 b1 b2 b3 b4 b5 b6 : Nat} {w w' : World} (h : TabW b0 b1 b2 b3 b4 b5 b6 w) (hb : Below w.heap.size w w') : TabW b0 b1 b2 b3 b4 b5 b6 w' := ⟨h.h0.keep hb, h.h1.keep hb, h.h2.keep hb, h.h3.keep hb, h.h4.keep hb, h.h5.keep hb, h.h6.keep hb⟩
theorem Own.cells {W : World} {b : Nat} {A : Array Value} (h : Own W b A) {c : Nat} (hn : c ≠ b) : ∀ (vs : List Value) (o : Nat) (W' : World), Own W' b A → Own (W'.setCells c o vs) b A
  | [], _, _, h => h
  | _ :: vs, o, W', h' => Own.cells h hn vs (o + 1) _ (h'.aside (fun e => hn e.symm) _)
theorem own_ne {W : World} {b c : Nat} {A B : Array Value} (h : Own W b A) (h' : Own W c B) (hs : A.size = 1) (hs2 : 1 < B.size) : c ≠ b := by
  rintro rfl
  have h1 := h.cell 1
  rw [h'.cell 1, Array.getElem?_eq_getElem hs2, Array.getElem?_eq_none (by omega)] at h1
  cases h1
theorem AllV.cells {W : World} {b : Nat} {f : Value} (h : AllV W f b) {c : Nat} {B : Array Value} (h' : Own W c B) (hs2 : 1 < B.size) (vs : List Value) : AllV (W.setCells c 0 vs) f b := Own.cells h (own_ne h h' rfl hs2) vs 0 W h
theorem SomeV.cells {W : World} {b : Nat} {f : Value} (h : SomeV W f b) {c : Nat} {B : Array Value} (h' : Own W c B) (hs2 : 1 < B.size) (vs : List Value) : SomeV (W.setCells c 0 vs) f b := by
  obtain ⟨d, h1, h2⟩ := h
  exact ⟨d, Own.cells h1 (own_ne h1 h' rfl hs2) vs 0 W h1, Own.cells h2 (own_ne h2 h' rfl hs2) vs 0 W h2⟩
theorem table_end (A : Array Value) (hA : (Tryz.prog.info? 90).map (·.size) = some A.toList.length) (W : World) (B : Nat) (tmps : Array Value) (hp : tmps.getD 0 undef = .pointer (some ⟨B, 0, none⟩)) (ht : W.there B 0 A.toList.length) : (results Tryz.f53 tmps).run Tryz.prog (W.setCells B 0 A.toList) = .ok (.agg A) (W.setCells B 0 A.toList) := by
  have h := run_loadVar_mid (P := Tryz.prog) _ B 0 90 A.toList _ (World.rangeAt_setCells_same W B 0 A.toList ht) Tryz.underlying90 rfl hA
  rw [Array.toArray_toList] at h
  generalize W.setCells B 0 A.toList = W' at h ⊢
  rw [results_cell1 (p := 0) (ty := 90) rfl, hp]
  have e : (asAddr (.pointer (some ⟨B, 0, none⟩))).run Tryz.prog W' = .ok ⟨B, 0, none⟩ W' := rfl
  rw [e, Result.andThen_ok, h]
theorem wp_build_is {P : Program} {o : Oper} {a : Act} {w : World} {K : Act → World → Prop} {Q : Exit → Act → World → Prop} (t : TypeId) (parts : Array (Nat × Operand)) (cells : Array Value) (ho : o.op = .build t parts)
    (hc : P.built t (parts.map fun (i, x) => (i, a.eval x)).toList = some cells) (h : K (a.put o.dst (.agg cells)) w) : o.wp P a w K Q := by
  unfold Oper.wp execOp
  simp only [ho, Sem.run_bind, run_build w t _ cells hc, Result.andThen_ok]
  exact h
set_option maxRecDepth 100000 in
set_option maxHeartbeats 4000000 in
theorem table_any (w : World) : Calls Tryz.prog 53 #[] w fun e w' => (∃ b0 b1 b2 b3 b4 b5 b6, e = .returned (.agg (tabA b0 b1 b2 b3 b4 b5 b6)) ∧ TabW b0 b1 b2 b3 b4 b5 b6 w') ∧ Below w.heap.size w w' := by
  have t0 : True := trivial
  have t1 : True := trivial
  have t2 : True := trivial
  have t3 : True := trivial
  have t4 : True := trivial
  have t5 : True := trivial
  have t6 : True := trivial
  go_enter Tryz.func53, Tryz.ntmps53
  iterate 94 first
    | (go_at_call 77; clear t0; refine (ofall 78 #[] _).mono ?_; rintro e w0 ⟨⟨b0, rfl, hv0⟩, hb0⟩; have hB0 : Below w.heap.size w w0 := bup (by with_reducible (repeat' first | assumption | exact Below.refl _ _ | refine Below.drew ?_ | refine bdrewN ?_ _ | refine Below.setCell ?_ (by first | exact Nat.le_refl _ | (simp; done) | (simp; omega) | omega) _ | refine Below.alloc ?_ (by first | exact Nat.le_refl _ | (simp; done) | (simp; omega) | omega) _)) hb0; have z0 := hB0.size; have o0 : Own w0 w.heap.size Tryz.zeroCells90 := Own.keep (by with_reducible (repeat' first | assumption | refine Own.drew ?_ | (refine Own.at ?_; first | rfl | (simp; done)) | refine Own.past ?_ _)) hb0; dsimp only)
    | (go_at_call 77; clear t1; refine (ofall 79 #[] _).mono ?_; rintro e w1 ⟨⟨b1, rfl, hv1⟩, hb1⟩; have hB1 : Below w.heap.size w w1 := bup (by with_reducible (repeat' first | assumption | exact Below.refl _ _ | refine Below.drew ?_ | refine bdrewN ?_ _ | refine Below.setCell ?_ (by first | exact Nat.le_refl _ | (simp; done) | (simp; omega) | omega) _ | refine Below.alloc ?_ (by first | exact Nat.le_refl _ | (simp; done) | (simp; omega) | omega) _)) hb1; have z1 := hB1.size; have o1 : Own w1 w.heap.size Tryz.zeroCells90 := Own.keep (by with_reducible (repeat' first | assumption | refine Own.drew ?_ | (refine Own.at ?_; first | rfl | (simp; done)) | refine Own.past ?_ _)) hb1; dsimp only)
    | (go_at_call 80; clear t2; refine (ofsome 81 _).mono ?_; rintro e w2 ⟨⟨b2, rfl, hv2⟩, hb2⟩; have hB2 : Below w.heap.size w w2 := bup (by with_reducible (repeat' first | assumption | exact Below.refl _ _ | refine Below.drew ?_ | refine bdrewN ?_ _ | refine Below.setCell ?_ (by first | exact Nat.le_refl _ | (simp; done) | (simp; omega) | omega) _ | refine Below.alloc ?_ (by first | exact Nat.le_refl _ | (simp; done) | (simp; omega) | omega) _)) hb2; have z2 := hB2.size; have o2 : Own w2 w.heap.size Tryz.zeroCells90 := Own.keep (by with_reducible (repeat' first | assumption | refine Own.drew ?_ | (refine Own.at ?_; first | rfl | (simp; done)) | refine Own.past ?_ _)) hb2; dsimp only)
    | (go_at_call 80; clear t3; refine (ofsome 82 _).mono ?_; rintro e w3 ⟨⟨b3, rfl, hv3⟩, hb3⟩; have hB3 : Below w.heap.size w w3 := bup (by with_reducible (repeat' first | assumption | exact Below.refl _ _ | refine Below.drew ?_ | refine bdrewN ?_ _ | refine Below.setCell ?_ (by first | exact Nat.le_refl _ | (simp; done) | (simp; omega) | omega) _ | refine Below.alloc ?_ (by first | exact Nat.le_refl _ | (simp; done) | (simp; omega) | omega) _)) hb3; have z3 := hB3.size; have o3 : Own w3 w.heap.size Tryz.zeroCells90 := Own.keep (by with_reducible (repeat' first | assumption | refine Own.drew ?_ | (refine Own.at ?_; first | rfl | (simp; done)) | refine Own.past ?_ _)) hb3; dsimp only)
    | (go_at_call 80; clear t4; refine (ofsome 83 _).mono ?_; rintro e w4 ⟨⟨b4, rfl, hv4⟩, hb4⟩; have hB4 : Below w.heap.size w w4 := bup (by with_reducible (repeat' first | assumption | exact Below.refl _ _ | refine Below.drew ?_ | refine bdrewN ?_ _ | refine Below.setCell ?_ (by first | exact Nat.le_refl _ | (simp; done) | (simp; omega) | omega) _ | refine Below.alloc ?_ (by first | exact Nat.le_refl _ | (simp; done) | (simp; omega) | omega) _)) hb4; have z4 := hB4.size; have o4 : Own w4 w.heap.size Tryz.zeroCells90 := Own.keep (by with_reducible (repeat' first | assumption | refine Own.drew ?_ | (refine Own.at ?_; first | rfl | (simp; done)) | refine Own.past ?_ _)) hb4; dsimp only)
    | (go_at_call 80; clear t5; refine (ofsome 84 _).mono ?_; rintro e w5 ⟨⟨b5, rfl, hv5⟩, hb5⟩; have hB5 : Below w.heap.size w w5 := bup (by with_reducible (repeat' first | assumption | exact Below.refl _ _ | refine Below.drew ?_ | refine bdrewN ?_ _ | refine Below.setCell ?_ (by first | exact Nat.le_refl _ | (simp; done) | (simp; omega) | omega) _ | refine Below.alloc ?_ (by first | exact Nat.le_refl _ | (simp; done) | (simp; omega) | omega) _)) hb5; have z5 := hB5.size; have o5 : Own w5 w.heap.size Tryz.zeroCells90 := Own.keep (by with_reducible (repeat' first | assumption | refine Own.drew ?_ | (refine Own.at ?_; first | rfl | (simp; done)) | refine Own.past ?_ _)) hb5; dsimp only)
    | (go_at_call 77; clear t6; refine (ofall 85 #[] _).mono ?_; rintro e w6 ⟨⟨b6, rfl, hv6⟩, hb6⟩; have hB6 : Below w.heap.size w w6 := bup (by with_reducible (repeat' first | assumption | exact Below.refl _ _ | refine Below.drew ?_ | refine bdrewN ?_ _ | refine Below.setCell ?_ (by first | exact Nat.le_refl _ | (simp; done) | (simp; omega) | omega) _ | refine Below.alloc ?_ (by first | exact Nat.le_refl _ | (simp; done) | (simp; omega) | omega) _)) hb6; have z6 := hB6.size; have o6 : Own w6 w.heap.size Tryz.zeroCells90 := Own.keep (by with_reducible (repeat' first | assumption | refine Own.drew ?_ | (refine Own.at ?_; first | rfl | (simp; done)) | refine Own.past ?_ _)) hb6; dsimp only)
    | go_step
  refine wp_build_is 90 _ (tabA b0 b1 b2 b3 b4 b5 b6) rfl (by kernel_rfl) ?_
  simp only [Act.put, List.getElem_toArray, List.setIfInBounds_toArray, List.set_cons_zero, List.set_cons_succ]
  go_step
  refine wpList_store_mid rfl 90 (.tmp 0) (.tmp 26) (by with_reducible rfl) w.heap.size 0 (tabA b0 b1 b2 b3 b4 b5 b6) rfl rfl (Own.there o6 (of_decide_eq_true (by kernel_rfl))) (by kernel_rfl) (by kernel_rfl) ?_
  repeat go_step
  have k0 := ((((((hv0.keep hb1).keep hb2).keep hb3).keep hb4).keep hb5).keep hb6)
  have k1 := (((((hv1.keep hb2).keep hb3).keep hb4).keep hb5).keep hb6)
  have k2 := ((((hv2.keep hb3).keep hb4).keep hb5).keep hb6)
  have k3 := (((hv3.keep hb4).keep hb5).keep hb6)
  have k4 := ((hv4.keep hb5).keep hb6)
  have k5 := (hv5.keep hb6)
  have k6 := hv6
  have hz : 1 < Tryz.zeroCells90.size := of_decide_eq_true (by kernel_rfl)
  refine bodyPost_ret (v := .agg (tabA b0 b1 b2 b3 b4 b5 b6)) (table_end (tabA b0 b1 b2 b3 b4 b5 b6) (by kernel_rfl) _ w.heap.size _ rfl (Own.there o6 (of_decide_eq_true (by kernel_rfl)))) rfl ⟨⟨b0, b1, b2, b3, b4, b5, b6, rfl, ⟨k0.cells o6 hz _, k1.cells o6 hz _, k2.cells o6 hz _, k3.cells o6 hz _, k4.cells o6 hz _, k5.cells o6 hz _, k6.cells o6 hz _⟩⟩, below_setCells (Nat.le_refl _) _ _ _ hB6⟩
end Go.Proofs.YtcgcnpcimfaecaaGreatDoor
