/- targets.add and remove at any reference that may be; what a Deps is; the contract of deps.New. · The contracts of deps.noTargets and New: nobody refers to anything. · deps.Set where it is refused: nothing is changed. -/
import Derived.Test.YtcjanaldjokllaaGreatQEA1EA2
namespace Go.Proofs.YtcjanaldjokllaaGreat
open Go.RowKit Go.Shelf
set_option linter.all false
theorem mayF_one {f : Rf} (h : mayF f = true) (hm : f.m = false) : f = ⟨false, f.t, f.l, f.t, f.l⟩ ∧ I64 f.t ∧ I64 f.l := by
  obtain ⟨m, t, l, b, q⟩ := f
  simp [mayF] at h hm
  subst hm
  simp at h
  obtain ⟨h1, rfl, rfl⟩ := h
  have := mayR_is h1
  refine ⟨rfl, ?_, ?_⟩ <;> constructor <;> simp only <;> omega
theorem ToOut.more {w w' : World} {bc NB : Nat} {B : Nat → Option TagD} {G : Int → Int → Rf → Prop} {n m n' m' : Nat} (h : ToOut w bc NB B G n m w') (hn : n ≤ n') (hm : m ≤ m') : ToOut w bc NB B G n' m' w' := by
  obtain ⟨B', h1, h2⟩ := h
  exact ⟨B', h1.more hn hm, h2⟩
theorem tadd_any (w : World) (bc NB : Nat) (B : Nat → Option TagD) (G : Int → Int → Rf → Prop) (n m : Nat) (r c : Int) (f : Rf) (h : To w bc NB B G n m) (hf : mayF f = true) (hc : mayC r c = true) (hG : ¬ G r c f) (hm : m + 1 ≤ 4000000000000) (hn : n < 4000000000000) : Calls Tryz.prog 25 #[.agg #[.map (some bc), .pointer (some ⟨NB, 0, none⟩)], .agg #[.bool f.m, .int .i64 f.t, .int .i64 f.l, .int .i64 f.b, .int .i64 f.q], .agg #[.int .i64 r, .int .i64 c]] w fun e w' => e = .returned (.tuple #[]) ∧ ToOut w bc NB B (addG G r c f) (n + 1) (m + 1) w' := by
  cases hmm : f.m
  · obtain ⟨e, h1, h2⟩ := mayF_one hf hmm
    have hG' : ¬ G r c ⟨false, f.t, f.l, f.t, f.l⟩ := by rw [← e]; exact hG
    have hk := tadd_one w bc NB B G n m r c f.t f.l h h1 h2 hG' hm hn
    rw [← e] at hk
    have e2 : f.b = f.t ∧ f.q = f.l := by rw [e]; exact ⟨rfl, rfl⟩
    rw [e2.1, e2.2]
    exact hk
  · have e : f = ⟨true, f.t, f.l, f.b, f.q⟩ := by rw [← hmm]
    have hp : mayP ⟨r, c, f.t, f.l, f.b, f.q⟩ = true := by
      unfold mayP
      unfold mayF at hf
      simp only [Bool.and_eq_true] at hf ⊢
      exact ⟨hf.1, hc⟩
    have hk := tadd_many w bc NB B G n m ⟨r, c, f.t, f.l, f.b, f.q⟩ h hp hm
    refine hk.mono ?_
    rintro e' w' ⟨q1, q2⟩
    refine ⟨q1, ?_⟩
    simp only at q2
    rw [← e] at q2
    exact q2.more (by omega) (Nat.le_refl _)
theorem trem_any (w : World) (bc NB : Nat) (B : Nat → Option TagD) (G : Int → Int → Rf → Prop) (n m : Nat) (r c : Int) (f : Rf) (h : To w bc NB B G n m) (hf : mayF f = true) (hG : G r c f) (hm : m ≤ 4000000000000) (hn : n < 4000000000000) : Calls Tryz.prog 23 #[.agg #[.map (some bc), .pointer (some ⟨NB, 0, none⟩)], .agg #[.bool f.m, .int .i64 f.t, .int .i64 f.l, .int .i64 f.b, .int .i64 f.q], .agg #[.int .i64 r, .int .i64 c]] w fun e w' => e = .returned (.tuple #[]) ∧ ToOut w bc NB B (remG G r c f) (n + 1) m w' := by
  cases hmm : f.m
  · obtain ⟨e, h1, h2⟩ := mayF_one hf hmm
    have hG' : G r c ⟨false, f.t, f.l, f.t, f.l⟩ := by rw [← e]; exact hG
    have hk := trem_one w bc NB B G n m r c f.t f.l h h1 h2 hG' hm hn
    rw [← e] at hk
    have e2 : f.b = f.t ∧ f.q = f.l := by rw [e]; exact ⟨rfl, rfl⟩
    rw [e2.1, e2.2]
    exact hk
  · have e : f = ⟨true, f.t, f.l, f.b, f.q⟩ := by rw [← hmm]
    have hk := trem_many w bc NB B G n m ⟨r, c, f.t, f.l, f.b, f.q⟩ h hm
    refine hk.mono ?_
    rintro e' w' ⟨q1, q2⟩
    refine ⟨q1, ?_⟩
    simp only at q2
    rw [← e] at q2
    exact q2.more (by omega) (Nat.le_refl _)
/-- What a cell's references are kept by: the map at bf tells each cell's. -/
structure Fm (w : World) (bf : Nat) (B : Nat → Option TagD) (E : Int → Int → List Rf) (n : Nat) : Prop where
  map : ∃ ff, MapF w bf n ff ∧ ∀ r c, I64 r → I64 c → RowF w (ff r c) (E r c) ∧ (E r c = [] → ff r c = nilS) ∧ (∀ g, (ff r c).ownBlock = some g → B g = some (3, r, c))
  bfT : B bf = some (1, 0, 0)
/-- What is said of the references themselves. -/
structure EOk (E : Int → Int → List Rf) : Prop where
  srt : ∀ r c, (E r c).Pairwise (fun x y => cmpF x y < 0)
  may : ∀ r c, ∀ f ∈ E r c, mayF f = true ∧ mayC r c = true
def inE (E : Int → Int → List Rf) : Int → Int → Rf → Prop := fun r c f => f ∈ E r c
/-- A Deps at N: who refers to what is E, from both sides. -/
structure Dp (w : World) (N : Nat) (B : Nat → Option TagD) (E : Int → Int → List Rf) (n m : Nat) : Prop where
  ok : EOk E
  NT : B N = some (0, 0, 0)
  dom : ∀ b, w.heap.size ≤ b → B b = none
  cells : ∃ bf bc NB, Own w N #[.map (some bf), .map (some bc), .pointer (some ⟨NB, 0, none⟩)] ∧ Fm w bf B E n ∧ To w bc NB B (inE E) n m
theorem Fm.keep {w w' : World} {bf : Nat} {B : Nat → Option TagD} {E : Int → Int → List Rf} {n : Nat} (h : Fm w bf B E n) (hb : Below w.heap.size w w') : Fm w' bf B E n := by
  obtain ⟨⟨ff, h1, h2⟩, h3⟩ := h
  exact ⟨⟨ff, h1.keep hb, fun r c hr hc => ⟨RowG.keep (h2 r c hr hc).1 hb, (h2 r c hr hc).2⟩⟩, h3⟩
theorem Dp.keep {w w' : World} {N : Nat} {B : Nat → Option TagD} {E : Int → Int → List Rf} {n m : Nat} (h : Dp w N B E n m) (hb : Below w.heap.size w w') : Dp w' N B E n m := by
  obtain ⟨h1, h2, h0, bf, bc, NB, h3, h4, h5⟩ := h
  exact ⟨h1, h2, fun b q => h0 b (Nat.le_trans hb.size q), bf, bc, NB, h3.keep hb, h4.keep hb, h5.keep hb⟩
/-- What is turned is none of the map by who refers. -/
theorem Fm.mut {S : Nat → Prop} {w w' : World} {bf : Nat} {B B' : Nat → Option TagD} {E : Int → Int → List Rf} {n : Nat} (h : Fm w bf B E n) (hm : Mut S w w') (hs : ∀ b, S b → isTo (B b)) (hB : ∀ b, b < w.heap.size → B' b = B b) : Fm w' bf B' E n := by
  obtain ⟨⟨ff, h1, h2⟩, h3⟩ := h
  have hn : ∀ b x y k, B b = some (k, x, y) → (k = 1 ∨ k = 3) → ¬ S b := fun b x y k q hk q2 => by
    have := hs b q2
    rw [q] at this
    rcases this with e | e | e <;> omega
  refine ⟨⟨ff, h1.mut hm (hn bf 0 0 1 h3 (.inl rfl)), fun r c hr hc => ?_⟩, by rw [hB bf h1.lt]; exact h3⟩
  obtain ⟨k1, k2, k3⟩ := h2 r c hr hc
  exact ⟨RowG.mut k1 hm (fun g q => hn g r c 3 (k3 g q) (.inr rfl)), k2, fun g q => by rw [hB g (RowG.lt k1 g q).2]; exact k3 g q⟩
end Go.Proofs.YtcjanaldjokllaaGreat
namespace Go.Proofs.YtcjanaldjokllaaGreat
open Go.RowKit Go.Shelf
set_option linter.all false
set_option maxRecDepth 100000 in
set_option maxHeartbeats 2000000 in
theorem not_any (w : World) : Calls Tryz.prog 35 #[] w fun e w' => ∃ bc NB, e = .returned (.agg #[.map (some bc), .pointer (some ⟨NB, 0, none⟩)]) ∧ w.heap.size ≤ bc ∧ bc < NB ∧ MapF w' bc 0 (fun _ _ => nilS) ∧ Bd w' NB (fun b => if b = NB then some (0, 0, 0) else none) [] 0 ∧ Below w.heap.size w w' := by
  have mixed : Tryz.prog.follows .mixedOrders = true := by kernel_rfl
  have HN : Hid (∀ W, Calls Tryz.prog 59 #[] W fun e w' => e = .returned (.pointer (some ⟨W.heap.size, 0, none⟩)) ∧ Bd w' W.heap.size (fun b => if b = W.heap.size then some (0, 0, 0) else none) [] 0 ∧ Below W.heap.size W w' ∧ w'.heap.size = W.heap.size + 1) := bnew_any
  go_enter Tryz.func35, Tryz.ntmps35
  have hmm : ∀ (W : World), (Instr.makeMap 71 none).run Tryz.prog W = .ok (.map (some W.heap.size)) (W.alloc (.map #[] 0)) := fun W => run_makeMap _ W
  go_wp2_with (go_at_call 59; refine (HN.out _).mono ?_; rintro e w1 ⟨rfl, h1, h2, z1⟩; have HM : Hid (MapF w1 (w.heap.size + 1) 0 (fun _ _ => nilS)) := (show MapF _ _ _ _ from by have h := (MapF.made (w.alloc (.cells #[.map none, .pointer none] 74))).keep h2; simpa using h); have HD : Hid (Bd w1 (w.heap.size + 1 + 1) (fun b => if b = w.heap.size + 1 + 1 then some (0, 0, 0) else none) [] 0) := (show Bd _ _ _ _ _ from by simpa using h1); have hB : Below w.heap.size w w1 := bup zqb h2; have oR : Own w1 w.heap.size #[.map none, .pointer none] := Own.keep (by with_reducible (repeat' first | assumption | refine Own.drew ?_ | refine Own.drewN ?_ _ | (refine Own.at ?_; first | rfl | (simp; done)) | refine Own.past ?_ _)) h2; have cR := oR.cell; have fR := oR.fro; have lR := oR.lt; clear h1 h2 z1)
  have hM2 : Mut (fun k => k = w.heap.size) w1 ((w1.setCell ⟨w.heap.size, 0, none⟩ (.map (some (w.heap.size + 1)))).setCell ⟨w.heap.size, 1, none⟩ (.pointer (some ⟨w.heap.size + 1 + 1, 0, none⟩))) := Mut.set (S := fun k => k = w.heap.size) (Mut.set (S := fun k => k = w.heap.size) (Mut.refl _ _) (.inl rfl) _) (.inl rfl) _
  have o2 : Own _ w.heap.size #[.map (some (w.heap.size + 1)), .pointer (some ⟨w.heap.size + 1 + 1, 0, none⟩)] := own_put (k := 1) (x := .pointer (some ⟨w.heap.size + 1 + 1, 0, none⟩)) (own_put (k := 0) (x := .map (some (w.heap.size + 1))) oR (by simp)) (by simp)
  have HM2 : Hid (MapF _ (w.heap.size + 1) 0 (fun _ _ => nilS)) := (show Hid _ from HM.out.mut hM2 (by intro q; omega))
  have HD2 : Hid (Bd _ (w.heap.size + 1 + 1) (fun b => if b = w.heap.size + 1 + 1 then some (0, 0, 0) else none) [] 0) := (show Hid _ from HD.out.mut hM2 (fun b q e => by
    by_cases e2 : b = w.heap.size + 1 + 1
    · omega
    · simp [e2] at q))
  have hB2 : Below w.heap.size w _ := hB.trans (hM2.to_below (B := w.heap.size) hB.size (fun k hk => by omega))
  revert HM2 HD2 hB2 o2
  clear hM2 cR fR lR oR
  generalize ((w1.setCell ⟨w.heap.size, 0, none⟩ (.map (some (w.heap.size + 1)))).setCell ⟨w.heap.size, 1, none⟩ (.pointer (some ⟨w.heap.size + 1 + 1, 0, none⟩))) = W2
  intro o2 HM2 HD2 hB2
  have c2 := o2.cell
  have f2 := o2.fro
  have l2 := o2.lt
  exact bodyPost_ret (v := .agg #[.map (some (w.heap.size + 1)), .pointer (some ⟨w.heap.size + 1 + 1, 0, none⟩)]) (by simp [results, Tryz.results35, go_sem, c2, f2, l2]) rfl ⟨_, _, rfl, by omega, by omega, HM2.out, HD2.out, hB2⟩
set_option maxRecDepth 100000 in
set_option maxHeartbeats 2000000 in
theorem dnew_any (w : World) : Calls Tryz.prog 19 #[] w fun e w' => ∃ N B, e = .returned (.pointer (some ⟨N, 0, none⟩)) ∧ w.heap.size ≤ N ∧ Dp w' N B (fun _ _ => []) 0 0 ∧ (∀ b, b < w.heap.size → B b = none) ∧ Below w.heap.size w w' := by
  have mixed : Tryz.prog.follows .mixedOrders = true := by kernel_rfl
  have hmm : ∀ (W : World), (Instr.makeMap 70 none).run Tryz.prog W = .ok (.map (some W.heap.size)) (W.alloc (.map #[] 0)) := fun W => run_makeMap _ W
  have HN : Hid (∀ W, Calls Tryz.prog 35 #[] W fun e w' => ∃ bc NB, e = .returned (.agg #[.map (some bc), .pointer (some ⟨NB, 0, none⟩)]) ∧ W.heap.size ≤ bc ∧ bc < NB ∧ MapF w' bc 0 (fun _ _ => nilS) ∧ Bd w' NB (fun b => if b = NB then some (0, 0, 0) else none) [] 0 ∧ Below W.heap.size W w') := not_any
  go_enter Tryz.func19, Tryz.ntmps19
  go_wp2_with (go_at_call 35; refine (HN.out _).mono ?_; rintro e w1 ⟨bc, NB, rfl, z1, z2, h1, h2, h3⟩; have HM : Hid (MapF w1 w.heap.size 0 (fun _ _ => nilS)) := (show MapF _ _ _ _ from by have h := (MapF.made w).keep h3; simpa using h); have HC : Hid (MapF w1 bc 0 (fun _ _ => nilS)) := h1; have HD : Hid (Bd w1 NB (fun b => if b = NB then some (0, 0, 0) else none) [] 0) := h2; have hB : Below w.heap.size w w1 := bup zqb h3; have zz1 : w.heap.size + 1 ≤ bc := (by simpa using z1); clear h1 h2 h3 z1)
  have hNB : NB < w1.heap.size := HD.out.dom NB (by simp)
  go_ret
  refine ⟨w1.heap.size, fun b => if b = w1.heap.size then some (0, 0, 0) else if b = w.heap.size then some (1, 0, 0) else if b = bc then some (2, 0, 0) else if b = NB then some (5, 0, 0) else none, rfl, hB.size, ⟨⟨fun _ _ => List.Pairwise.nil, fun r c f hf => (by cases hf)⟩, if_pos rfl, fun b hb => ?_, w.heap.size, bc, NB, Own.new _ _ _, ⟨⟨_, HM.out.keep (bal _ _), fun r c _ _ => ⟨RowG.nil _, fun _ => rfl, fun g q => (by cases q)⟩⟩, ?_⟩, ⟨⟨_, HC.out.keep (bal _ _), fun x y _ _ => ⟨[], RowG.nil _, fun _ => rfl, List.Pairwise.nil, fun z => (by simp [inE]), fun g q => (by cases q), Nat.le_refl _⟩⟩, ?_, _, _, HD.out.keep (bal _ _), fun b q => ?_, fun p => by simp [inE]⟩⟩, fun b hb => ?_, by with_reducible (repeat' first | assumption | exact Below.refl _ _ | refine Below.drew ?_ | refine bdrewN ?_ _ | refine Below.setCell ?_ (by first | exact Nat.le_refl _ | (simp; done) | (simp; omega) | omega) _ | refine Below.alloc ?_ (by first | exact Nat.le_refl _ | (simp; done) | (simp; omega) | omega) _)⟩
  · have hz := hB.size
    have hb' : w1.heap.size + 1 ≤ b := by simpa using hb
    have e1 : ¬ b = w1.heap.size := by omega
    have e2 : ¬ b = w.heap.size := by omega
    have e3 : ¬ b = bc := by omega
    have e4 : ¬ b = NB := by omega
    simp [e1, e2, e3, e4]
  · have e1 : ¬ w.heap.size = w1.heap.size := by omega
    simp [e1]
  · have e1 : ¬ bc = w1.heap.size := by omega
    have e2 : ¬ bc = w.heap.size := by omega
    simp [e1, e2]
  · by_cases e : b = NB
    · subst e
      have e1 : ¬ b = w1.heap.size := by omega
      have e2 : ¬ b = w.heap.size := by omega
      have e3 : ¬ b = bc := by omega
      simp [e1, e2, e3]
    · simp [e] at q
  · have := hB.size
    have e1 : ¬ b = w1.heap.size := by omega
    have e2 : ¬ b = w.heap.size := by omega
    have e3 : ¬ b = bc := by omega
    have e4 : ¬ b = NB := by omega
    simp [e1, e2, e3, e4]
end Go.Proofs.YtcjanaldjokllaaGreat
namespace Go.Proofs.YtcjanaldjokllaaGreat
open Go.RowKit Go.Shelf
set_option linter.all false
/-- References that came in. -/
def VF (w : World) (v : Value) (l : List Rf) : Prop := ∃ p n cap, v = .slice p n cap ∧ n = l.length ∧ n ≤ cap ∧ cap ≤ 9223372036854775807 ∧ (0 < n → ∃ b o, p = some ⟨b, o, none⟩ ∧ b < w.heap.size ∧ ∀ i x, l[i]? = some x → ∀ j u, (Rf.cs x)[j]? = some u → w.cell? ⟨b, o + i * 5 + j, none⟩ = some u)
set_option maxRecDepth 100000 in
theorem dset_addr (w : World) (N : Nat) (v : Value) (r c : Int) (hc : mayC r c = false) : Calls Tryz.prog 10 #[.pointer (some ⟨N, 0, none⟩), .agg #[.int .i64 r, .int .i64 c], v] w fun e w' => e = .returned (.int .i64 3) ∧ Below w.heap.size w w' := by
  have HC : Hid (∀ W, Calls Tryz.prog 21 #[.agg #[.int .i64 r, .int .i64 c]] W fun e w' => e = .returned (.bool false) ∧ Below W.heap.size W w') := (show _ from fun W => by rw [← hc]; exact may_any r c W)
  clear hc
  go_enter Tryz.func10, Tryz.ntmps10
  go_wp2_with (go_at_call 21; refine (HC.out _).mono ?_; rintro e wa ⟨rfl, hba⟩; have hBa : Below w.heap.size w wa := bup zqb hba; clear hba)
  go_ret
  exact ⟨rfl, hBa⟩
set_option maxRecDepth 100000 in
set_option maxHeartbeats 4000000 in
theorem dset_arg (w : World) (N : Nat) (v : Value) (l : List Rf) (r c : Int) (hv : VF w v l) (hc : mayC r c = true) (hl : ∃ f ∈ l, mayF f = false) : Calls Tryz.prog 10 #[.pointer (some ⟨N, 0, none⟩), .agg #[.int .i64 r, .int .i64 c], v] w fun e w' => e = .returned (.int .i64 1) ∧ Below w.heap.size w w' := by
  have HC : Hid (∀ W, Calls Tryz.prog 21 #[.agg #[.int .i64 r, .int .i64 c]] W fun e w' => e = .returned (.bool true) ∧ Below W.heap.size W w') := (show _ from fun W => by rw [← hc]; exact may_any r c W)
  obtain ⟨p, n, cap, rfl, hn, hcap, hmx, hp⟩ := hv
  have HE : Hid (∀ i, i < n → ∃ b o x, p = some ⟨b, o, none⟩ ∧ b < w.heap.size ∧ l[i]? = some x ∧ ∀ j u, (Rf.cs x)[j]? = some u → w.cell? ⟨b, o + i * 5 + j, none⟩ = some u) := (show _ from fun i hi => by
    obtain ⟨b, o, rfl, hb, hcl⟩ := hp (by omega)
    obtain ⟨x, hx⟩ : ∃ x, l[i]? = some x := ⟨_, List.getElem?_eq_getElem (by omega)⟩
    exact ⟨b, o, x, rfl, hb, hx, hcl i x hx⟩)
  have HN : Hid (n = l.length) := hn
  have HBad : Hid (∃ f ∈ l, mayF f = false) := hl
  clear hc hp hn hl
  go_enter Tryz.func10, Tryz.ntmps10
  go_wp2_with (go_at_call 21; refine (HC.out _).mono ?_; rintro e wa ⟨rfl, hba⟩; have hBa : Below w.heap.size w wa := bup zqb hba; clear hba)
  go_loopw [18] (fun u w' => ∃ i : Nat, u = .int .i64 i ∧ i ≤ n ∧ Hid (∀ j x, j < i → l[j]? = some x → mayF x = true) ∧ Below w.heap.size w w') (fun u _ => n - (intOf u).toNat)
  case atStart => exact ⟨0, rfl, by omega, (show Hid _ from fun j x hj => absurd hj (Nat.not_lt_zero _)), by with_reducible (repeat' first | assumption | exact Below.refl _ _ | refine Below.drew ?_ | refine bdrewN ?_ _ | refine Below.setCell ?_ (by first | exact Nat.le_refl _ | (simp; done) | (simp; omega) | omega) _ | refine Below.alloc ?_ (by first | exact Nat.le_refl _ | (simp; done) | (simp; omega) | omega) _)⟩
  case round =>
    obtain ⟨i, rfl, hi, HL, hB⟩ := hrel
    have zB := hB.size
    by_cases hlt : i < n
    · have hlt' : (i : Int) < n := by omega
      obtain ⟨b, o, f, rfl, hb, hf, hcl⟩ := HE.out i hlt
      have y0 : wr.cell? ⟨b, o + i * 5, none⟩ = some (.bool f.m) := (hB.cell (p := ⟨b, o + i * 5, none⟩) hb).trans (hcl 0 _ rfl)
      have y1 : wr.cell? ⟨b, o + i * 5 + 1, none⟩ = some (.int .i64 f.t) := (hB.cell (p := ⟨b, o + i * 5 + 1, none⟩) hb).trans (hcl 1 _ rfl)
      have y2 : wr.cell? ⟨b, o + i * 5 + 2, none⟩ = some (.int .i64 f.l) := (hB.cell (p := ⟨b, o + i * 5 + 2, none⟩) hb).trans (hcl 2 _ rfl)
      have y3 : wr.cell? ⟨b, o + i * 5 + 3, none⟩ = some (.int .i64 f.b) := (hB.cell (p := ⟨b, o + i * 5 + 3, none⟩) hb).trans (hcl 3 _ rfl)
      have y4 : wr.cell? ⟨b, o + i * 5 + 4, none⟩ = some (.int .i64 f.q) := (hB.cell (p := ⟨b, o + i * 5 + 4, none⟩) hb).trans (hcl 4 _ rfl)
      have HM0 := fun W => mayf_any f W
      cases hm : mayF f
      · rw [hm] at HM0
        have HM : Hid (∀ W, Calls Tryz.prog 22 #[.agg #[.bool f.m, .int .i64 f.t, .int .i64 f.l, .int .i64 f.b, .int .i64 f.q]] W fun e w' => e = .returned (.bool false) ∧ Below W.heap.size W w') := HM0
        clear HM0 hm hf hcl
        go_wp2_with (go_at_call 22; refine (HM.out _).mono ?_; rintro e wb ⟨rfl, hbb⟩; have hBb : Below w.heap.size w wb := bup zqb hbb; clear hbb)
        go_ret
        exact ⟨rfl, hBb⟩
      · rw [hm] at HM0
        have HM : Hid (∀ W, Calls Tryz.prog 22 #[.agg #[.bool f.m, .int .i64 f.t, .int .i64 f.l, .int .i64 f.b, .int .i64 f.q]] W fun e w' => e = .returned (.bool true) ∧ Below W.heap.size W w') := HM0
        have HL2 : Hid (∀ j x, j < i + 1 → l[j]? = some x → mayF x = true) := (show _ from fun j x hj hx => by
          by_cases e : j = i
          · subst e; rw [hf] at hx; injection hx with hx; subst hx; exact hm
          · exact HL.out j x (by omega) hx)
        clear HM0 hm hf hcl
        go_wp2_with (go_at_call 22; refine (HM.out _).mono ?_; rintro e wb ⟨rfl, hbb⟩; have hBb : Below w.heap.size w wb := bup zqb hbb; clear hbb)
        exact ⟨⟨i + 1, by go_num, by omega, HL2, hBb⟩, by simp [intOf] <;> omega⟩
    · exfalso
      obtain ⟨f, hf, hm⟩ := HBad.out
      obtain ⟨j, hj⟩ := List.getElem?_of_mem hf
      have := (List.getElem?_eq_some_iff.1 hj).1
      have := HL.out j f (by have := HN.out; omega) hj
      rw [hm] at this
      cases this
end Go.Proofs.YtcjanaldjokllaaGreat
