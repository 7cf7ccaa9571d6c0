/- The contract of aggs.items (an iterator) and of aggs.firstFault: the first fault of the items. New memory alone is made. -/
import Derived.Test.YtmfbplicakappaaGreatDoorQGI
import Derived.Test.YtmfbplicakappaaGreatDoorQNT5p
import Derived.Maps.OwnIn
import Derived.Maps.AppendAt
namespace Go.Proofs.YtmfbplicakappaaGreatDoor
open Go.Shelf Go.RowKit
set_option linter.all false
attribute [local go_sem] Oper.semAt_some
theorem set_other {W : World} {a : Addr} {v : Value} {k : Nat} (h : k ≠ a.block) : (W.setCell a v).heap[k]? = W.heap[k]? := Below.heap_setCell W a v k h
theorem set_size (W : World) (a : Addr) (v : Value) : (W.setCell a v).heap.size = W.heap.size := by simp [World.setCell]
theorem Turn.same {Ft : Nat → Prop} {A : World} (hF : ∀ b, Ft b → b < A.heap.size) : Turn Ft Ft A A := Turn.of_below (Below.refl _ _) (Nat.le_refl _) hF
theorem Turn.set {Ft Ft' : Nat → Prop} {A W : World} (h : Turn Ft Ft' A W) {a : Addr} (ha : Ft a.block) (v : Value) : Turn Ft Ft' A (W.setCell a v) :=
  ⟨h.os, h.tape, h.output, by rw [set_size]; exact h.size, fun i hi hk => (set_other (fun e => hk (by rw [e]; exact ha))).trans (h.block i hi hk), fun i hi => ⟨(h.foot i hi).1, by rw [set_size]; exact (h.foot i hi).2⟩⟩
theorem items_0 (B : Nat) (wB w0 : World) (p : Option Addr) (ac : Nat) (hB : w0.cell? ⟨B, 0, none⟩ = some (.slice p 0 ac)) (hs0 : ∀ q, q < wB.heap.size → w0.heap[q]? = wB.heap[q]?) :
    Gives Tryz.prog 104 #[.pointer (some ⟨B, 0, none⟩)] encI (itms []) (fun k => k = B ∨ k < wB.heap.size) w0 := by
  intro l J Jx Ft0 W hown hF0 hJ hJx hY h0 m
  obtain ⟨hB1, hB2, hB3⟩ := hown B (.inl rfl)
  have hc0 : W.cell? ⟨B, 0, none⟩ = some (.slice p 0 ac) := (World.cell?_of_block hB1).trans hB
  have HY : Hid _ := hY
  have HJ : Hid _ := hJ
  have HJx : Hid _ := hJx
  clear hY hJ hJx hown hB hB1 hs0
  refine callsIn_wide.2 ((callsIn_wide (n := 5)).1 ?_)
  refine callsIn_of_wp Tryz.func104 rfl trivial ?_ rfl
  simp only [Tryz.ntmps104, List.size_toArray, List.length_cons, List.length_nil, Nat.reduceAdd, Nat.reduceSub, Array.replicate_succ, Array.replicate_zero, List.push_toArray, List.append_toArray, List.nil_append, List.cons_append]
  gi_wp2
  gi_loopw [9] (fun vv wr => vv = .int .i64 0 ∧ wr = W) (fun _ _ => 0)
  case atStart => exact ⟨rfl, rfl⟩
  case round =>
    obtain ⟨rfl, rfl⟩ := hrel
    gi_wp2
    refine bodyPost_end (results_none rfl _ _ _) rfl ?_
    first | exact ⟨⟨_, rfl⟩, Ft0, Nat.le_refl _, hF0, fun b h => .inl h, .inl h0⟩ | exact ⟨⟨_, rfl⟩, Nat.le_refl _, Ft0, hF0, fun b h => .inl h, .inl h0⟩
/-- The items, gone through by their iterator, wherever the arguments lie. -/
theorem items_gives (L : List (Ag × List En)) (B : Nat) (wB w0 : World) (v : Value) (hB : w0.cell? ⟨B, 0, none⟩ = some v) (hv : AV wB v (L.map Prod.fst)) (h40 : L.length ≤ 1099511627776) (hE : ∀ p ∈ L, AgE wB p) (hs0 : ∀ q, q < wB.heap.size → w0.heap[q]? = wB.heap[q]?) :
    Gives Tryz.prog 104 #[.pointer (some ⟨B, 0, none⟩)] encI (itms L) (fun k => k = B ∨ k < wB.heap.size) w0 := by
  obtain ⟨p, c, rfl, hc, hf⟩ := hv
  rw [List.length_map] at hc hf hB
  by_cases h0 : 0 < L.length
  · obtain ⟨b, o, rfl, hlt, HA⟩ := hf h0
    exact items_y L B b o L.length c wB w0 hB hlt HA rfl hc h40 hE hs0
  · have e : L = [] := List.eq_nil_of_length_eq_zero (by omega)
    subst e
    exact items_0 B wB w0 p c hB hs0
theorem own_put5 {W : World} {b : Nat} {x0 x1 x2 x3 x4 y0 y1 y2 y3 y4 : Value} (h : Own W b #[x0, x1, x2, x3, x4]) : Own (((((W.setCell ⟨b, 0, none⟩ y0).setCell ⟨b, 1, none⟩ y1).setCell ⟨b, 2, none⟩ y2).setCell ⟨b, 3, none⟩ y3).setCell ⟨b, 4, none⟩ y4) b #[y0, y1, y2, y3, y4] :=
  own_put (own_put (own_put (own_put (own_put h (k := 0) (by simp)) (k := 1) (by simp)) (k := 2) (by simp)) (k := 3) (by simp)) (k := 4) (by simp)
theorem put5_other {W : World} {b k : Nat} {y0 y1 y2 y3 y4 : Value} (h : k ≠ b) : (((((W.setCell ⟨b, 0, none⟩ y0).setCell ⟨b, 1, none⟩ y1).setCell ⟨b, 2, none⟩ y2).setCell ⟨b, 3, none⟩ y3).setCell ⟨b, 4, none⟩ y4).heap[k]? = W.heap[k]? := by
  rw [set_other h, set_other h, set_other h, set_other h, set_other h]
theorem below_putObj {b : Nat} {A W : World} (h : Below b A W) {D : Nat} (hD : b ≤ D) (o : Obj) : Below b A (W.putObj D o) :=
  h.trans ⟨rfl, rfl, rfl, by rw [World.putObj_size]; exact Nat.le_refl _, fun y hy => World.putObj_heap_other (by omega)⟩
theorem below_put5 {b n : Nat} {A W : World} (h : Below n A W) (hb : n ≤ b) (y0 y1 y2 y3 y4 : Value) : Below n A (((((W.setCell ⟨b, 0, none⟩ y0).setCell ⟨b, 1, none⟩ y1).setCell ⟨b, 2, none⟩ y2).setCell ⟨b, 3, none⟩ y3).setCell ⟨b, 4, none⟩ y4) :=
  (((((h.setCell (p := ⟨b, 0, none⟩) hb _).setCell (p := ⟨b, 1, none⟩) hb _).setCell (p := ⟨b, 2, none⟩) hb _).setCell (p := ⟨b, 3, none⟩) hb _).setCell (p := ⟨b, 4, none⟩) hb _)
theorem own_put1 {W : World} {b : Nat} {x y : Value} (h : Own W b #[x]) : Own (W.setCell ⟨b, 0, none⟩ y) b #[y] := own_put h (k := 0) (by simp)
/-- The first fault of some items. -/
def firstI (l : List It) : Option It := l.find? (fun x => x.t == 4)
def itV (x : It) : Value := .agg #[.int .i64 x.t, .int .i64 x.n, .string x.s, .bool x.b, .int .i64 x.c]
def faultI (r : Option It) : Value := match r with
  | some x => .tuple #[itV x, .bool true]
  | none => .tuple #[v0, .bool false]
theorem firstI_take {l : List It} {i : Nat} {x : It} (h : l[i]? = some x) (h1 : firstI (l.take i) = none) (h2 : (x.t == 4) = false) : firstI (l.take (i + 1)) = none := by
  unfold firstI at h1 ⊢
  rw [List.take_succ, h, List.find?_append, h1]; simp [h2]
theorem firstI_at {l : List It} {i : Nat} {x : It} (h : l[i]? = some x) (h1 : firstI (l.take i) = none) (h2 : (x.t == 4) = true) : firstI l = some x := by
  have e : l = l.take i ++ x :: l.drop (i + 1) := by
    obtain ⟨hi, rfl⟩ := List.getElem?_eq_some_iff.1 h
    rw [List.getElem_cons_drop, List.take_append_drop]
  unfold firstI at h1 ⊢
  rw [e, List.find?_append, h1]; simp [h2]
theorem items_mk (q : Option Addr) (n c : Nat) (w : World) : Calls Tryz.prog 61 #[.slice q n c] w fun e w' => e = .returned (.func (.func 104) #[] #[.pointer (some ⟨w.heap.size, 0, none⟩)]) ∧ w' = w.alloc (.cells #[.slice q n c] 22) := by
  go_enter Tryz.func61, Tryz.ntmps61
  go_wp2
  go_ret
  exact ⟨rfl, rfl⟩
def FtF (b : Nat) : Nat → Prop := fun q => q = b ∨ q = b + 1
set_option maxHeartbeats 4000000 in
set_option maxRecDepth 100000 in
theorem ff_any (w : World) (v : Value) (L : List (Ag × List En)) (hv : AV w v (L.map Prod.fst)) (h40 : L.length ≤ 1099511627776) (hE : Hid (∀ p ∈ L, AgE w p)) :
    Calls Tryz.prog 30 #[v] w fun e w' => e = .returned (faultI (firstI (itms L))) ∧ Below w.heap.size w w' := by
  have hsl : ∃ q n c, v = .slice q n c := by obtain ⟨q, c, e, _⟩ := hv; exact ⟨q, _, c, e⟩
  obtain ⟨vq, vn, vc, rfl⟩ := hsl
  refine (callsIn_wide (n := 9)).1 ?_
  refine callsIn_of_wp_marks Tryz.func30 rfl trivial ?_ rfl
  simp only [Tryz.ntmps30, List.size_toArray, List.length_cons, List.length_nil, Nat.reduceAdd, Nat.reduceSub, Array.replicate_succ, Array.replicate_zero, List.push_toArray, List.append_toArray, List.nil_append, List.cons_append]
  have hlm := fun w => items_mk vq vn vc w
  gi_wp2_with (refine ⟨trivial, ?_⟩; gi_at_call 61; refine (callsIn_wide.2 (hlm _)).mono ?_; rintro e w1 ⟨rfl, rfl⟩)
  clear hlm
  obtain ⟨b, hb⟩ : ∃ b, w.heap.size = b := ⟨_, rfl⟩
  obtain ⟨V, hV⟩ : ∃ V, (((w.alloc (.cells #[.int .i64 0, .int .i64 0, .string ⟨#[]⟩, .bool false, .int .i64 0] 26)).alloc (.cells #[.bool false] 4)).alloc (.cells #[.slice vq vn vc] 22)) = V := ⟨_, rfl⟩
  have v0 : Own V b #[.int .i64 0, .int .i64 0, .string ⟨#[]⟩, .bool false, .int .i64 0] := by rw [← hV, ← hb]; exact ((Own.new _ _ _).past _).past _
  have v1 : Own V (b + 1) #[.bool false] := by rw [← hV, ← hb]; exact (Own.at (by simp)).past _
  have v2 : Own V (b + 1 + 1) #[.slice vq vn vc] := by rw [← hV, ← hb]; exact Own.at (by simp)
  have hVs : V.heap.size = b + 3 := by rw [← hV, ← hb]; simp
  have hBV : Below b w V := by
    rw [← hV, ← hb]
    exact (((Below.refl _ w).alloc (Nat.le_refl _) _).alloc (by simp) _).alloc (by simp; omega) _
  rw [hV, hb]
  have hgv := items_gives L (b + 1 + 1) w V (.slice vq vn vc) (v2.cell 0) hv h40 hE.out (fun q hq => hBV.block q (by omega))
  have HGV : Hid _ := hgv
  clear hV hgv
  refine range_out (gf := 104) (lb := #[.pointer (some ⟨b + 1 + 1, 0, none⟩)]) rfl (enters_of Tryz.func104 (by kernel_rfl) rfl)
    HGV.out (fun _ => rfl) (FtF b) ?own ?F0
    (fun k Ft A => Own A b #[.int .i64 0, .int .i64 0, .string ⟨#[]⟩, .bool false, .int .i64 0] ∧ Own A (b + 1) #[.bool false] ∧ Ft = FtF b ∧ Below b w A ∧ Hid (firstI ((itms L).take k) = none))
    (fun c k Ft A => c = .ret ∧ ∃ x : It, Own A b #[.int .i64 x.t, .int .i64 x.n, .string x.s, .bool x.b, .int .i64 x.c] ∧ Own A (b + 1) #[.bool true] ∧ Ft = FtF b ∧ Below b w A ∧ Hid (firstI (itms L) = some x))
    ?hI ?hIx ?h0 ?round ?done ?stop
  case own =>
    rintro k (rfl | hk)
    · exact ⟨rfl, by rintro (h | h) <;> omega, by omega⟩
    · exact ⟨rfl, by rintro (h | h) <;> omega, by omega⟩
  case F0 => rintro k (h | h) <;> omega
  case hI =>
    rintro k Ft A A' ⟨o0, o1, rfl, hB, hh⟩ hk
    have hsm : ∀ x, x < b + 3 → x < A.heap.size → A'.heap[x]? = A.heap[x]? := fun x h1 h2 => hk.block x h2 (.inl (by omega))
    exact ⟨o0.of_block (hsm _ (by omega) o0.lt), o1.of_block (hsm _ (by omega) o1.lt), rfl, hB.trans ⟨hk.os, hk.tape, hk.output, hk.size, fun x hx => hsm x (by omega) (by have := o0.lt; omega)⟩, hh⟩
  case hIx =>
    rintro c k Ft A A' ⟨rfl, x, o0, o1, rfl, hB, hh⟩ hk
    have hsm : ∀ x, x < b + 3 → x < A.heap.size → A'.heap[x]? = A.heap[x]? := fun x h1 h2 => hk.block x h2 (.inl (by omega))
    exact ⟨rfl, x, o0.of_block (hsm _ (by omega) o0.lt), o1.of_block (hsm _ (by omega) o1.lt), rfl, hB.trans ⟨hk.os, hk.tape, hk.output, hk.size, fun x hx => hsm x (by omega) (by have := o0.lt; omega)⟩, hh⟩
  case h0 => exact ⟨v0, v1, rfl, hBV, rfl⟩
  case done =>
    rintro D Ft A hD hDA ⟨o0, o1, rfl, hB, hh⟩ hFD hlt hfr hK
    have c0 := o0.cell
    have f0 := o0.fro
    have l0 := o0.lt
    have c1 := o1.cell
    have f1 := o1.fro
    have l1 := o1.lt
    have hnone : firstI (itms L) = none := by have := hh.out; rwa [List.take_length] at this
    have HNO : Hid _ := hnone
    have HK : Hid _ := hK
    clear hnone hK
    gi_wp2
    have W6 := own_put5 (y0 := .int .i64 0) (y1 := .int .i64 0) (y2 := .string ⟨#[]⟩) (y3 := .bool false) (y4 := .int .i64 0) o0
    have W7 := own_put1 (y := .bool false) (o1.of_block (put5_other (y0 := .int .i64 0) (y1 := .int .i64 0) (y2 := .string ⟨#[]⟩) (y3 := .bool false) (y4 := .int .i64 0) (show b + 1 ≠ b by omega)))
    have W8 := W6.of_block (set_other (a := ⟨b + 1, 0, none⟩) (v := .bool false) (show b ≠ b + 1 by omega))
    refine ⟨by simp, .inl ⟨_, _, rfl, run_takeDeferred ((set_other (by show D ≠ b + 1; omega)).trans ((put5_other (by omega)).trans HK.out)), ?_⟩⟩
    have r0 := Own.of_block W8 (World.putObj_heap_other (r := D) (o := .deferred none) (show b ≠ D by omega))
    have r1 := Own.of_block W7 (World.putObj_heap_other (r := D) (o := .deferred none) (show b + 1 ≠ D by omega))
    clear W6 W7 W8 c0 f0 l0 c1 f1 l1
    have c0 := r0.cell
    have f0 := r0.fro
    have l0 := r0.lt
    have c1 := r1.cell
    have f1 := r1.fro
    have l1 := r1.lt
    refine ⟨.tuple #[Go.Proofs.YtmfbplicakappaaGreatDoor.v0, .bool false], by simp [results, Tryz.results30, go_sem, c0, f0, l0, c1, f1, l1, Go.Proofs.YtmfbplicakappaaGreatDoor.v0], ?_, ?_⟩
    · rw [HNO.out]; rfl
    · exact below_putObj ((below_put5 hB (Nat.le_refl _) _ _ _ _ _).setCell (p := ⟨b + 1, 0, none⟩) (show b ≤ b + 1 by omega) _) (by omega) _
  case stop =>
    rintro D c k Ft A hD hDA hk ⟨rfl, x, o0, o1, rfl, hB, hh⟩ hFD hlt hfr hK
    have HK : Hid _ := hK
    clear hK
    gi_wp2
    refine ⟨by simp, .inl ⟨_, _, rfl, run_takeDeferred HK.out, ?_⟩⟩
    have r0 : Own (A.putObj D (.deferred none)) b #[.int .i64 x.t, .int .i64 x.n, .string x.s, .bool x.b, .int .i64 x.c] := o0.of_block (World.putObj_heap_other (by omega))
    have r1 : Own (A.putObj D (.deferred none)) (b + 1) #[.bool true] := o1.of_block (World.putObj_heap_other (by omega))
    have c0 := r0.cell
    have f0 := r0.fro
    have l0 := r0.lt
    have c1 := r1.cell
    have f1 := r1.fro
    have l1 := r1.lt
    refine ⟨.tuple #[itV x, .bool true], by simp [results, Tryz.results30, go_sem, c0, f0, l0, c1, f1, l1, itV], ?_, ?_⟩
    · rw [hh.out]; rfl
    · exact below_putObj hB (by omega) _
  case round =>
    rintro L' k x Ft A hx ⟨o0, o1, rfl, hB, hh⟩ hL hLA hFL hlt hfr
    unfold encI
    dsimp only
    gi_wp2
    refine ⟨bal _ _, fun W2 hset r hr => ?_⟩
    have hTL : A.heap.size ≠ L' := by omega
    have oT : Own W2 A.heap.size #[.int .i64 x.t, .int .i64 x.n, .string x.s, .bool x.b, .int .i64 x.c] := (Own.new A #[.int .i64 x.t, .int .i64 x.n, .string x.s, .bool x.b, .int .i64 x.c] 26).of_block (hset.block _ hTL)
    have hAW : ∀ y, y < A.heap.size → y ≠ L' → W2.heap[y]? = A.heap[y]? := fun y h1 h2 => (hset.block y h2).trans (Below.heap_alloc A _ y h1)
    replace o0 := o0.of_block (hAW _ o0.lt (by omega))
    replace o1 := o1.of_block (hAW _ o1.lt (by omega))
    have hz : W2.heap.size = A.heap.size + 1 := by rw [hset.size]; simp
    have hBW : Below b w W2 := hB.trans ⟨hset.os, hset.tape, hset.output, by omega, fun y hy => hAW y (by omega) (by omega)⟩
    have HX : Hid _ := hx
    clear hset hr r hB hx
    have hFW : ∀ q, FtF b q → q < W2.heap.size := by rintro q (h | h) <;> omega
    have c0 := o0.cell
    have f0 := o0.fro
    have l0 := o0.lt
    have c1 := o1.cell
    have f1 := o1.fro
    have l1 := o1.lt
    have cT := oT.cell
    have lT := oT.lt
    have HZ : Hid _ := hz
    clear hz
    cases hs : (x.t == 4)
    · have HS : Hid _ := hs
      gi_wp2
      exact ⟨FtF b, Turn.same hFW, o0, o1, rfl, hBW, firstI_take HX.out hh.out HS.out⟩
    · have HS : Hid _ := hs
      gi_wp2
      have hFb : FtF b b := .inl rfl
      have hFb1 : FtF b (b + 1) := .inr rfl
      have hq : b ≤ b := Nat.le_refl _
      refine ⟨FtF b, ((((((Turn.same hFW).set (a := ⟨b, 0, none⟩) hFb _).set (a := ⟨b, 1, none⟩) hFb _).set (a := ⟨b, 2, none⟩) hFb _).set (a := ⟨b, 3, none⟩) hFb _).set (a := ⟨b, 4, none⟩) hFb _).set (a := ⟨b + 1, 0, none⟩) hFb1 _, rfl, x, ?_, ?_, rfl, ?_, (show Hid _ from firstI_at HX.out hh.out HS.out)⟩
      · exact (own_put5 o0).of_block (set_other (a := ⟨b + 1, 0, none⟩) (show b ≠ b + 1 by omega))
      · exact own_put1 (o1.of_block (put5_other (show b + 1 ≠ b by omega)))
      · exact (below_put5 hBW (Nat.le_refl _) _ _ _ _ _).setCell (p := ⟨b + 1, 0, none⟩) (show b ≤ b + 1 by omega) _
end Go.Proofs.YtmfbplicakappaaGreatDoor
