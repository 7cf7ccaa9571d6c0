/- targets.add and remove at any reference that may be; what a Deps is; the contract of deps.New. -/
import Derived.Test.YtgojnijpjfdocaaGreatEA2
namespace Go.Proofs.YtgojnijpjfdocaaGreat
open Go.RowKit Go.Shelf
set_option linter.all false
theorem mayF_one {f : Rf} (h : mayF f = true) (hm : f.m = false) : f = ⟨false, f.t, f.l, f.t, f.l⟩ ∧ I64 f.t ∧ I64 f.l := by
  obtain ⟨m, t, l, b, q⟩ := f
  simp [mayF] at h hm
  subst hm
  simp at h
  obtain ⟨h1, rfl, rfl⟩ := h
  have := mayR_is h1
  refine ⟨rfl, ?_, ?_⟩ <;> constructor <;> simp only <;> omega
theorem ToOut.more {w w' : World} {bc NB : Nat} {B : Nat → Option TagD} {G : Int → Int → Rf → Prop} {n m n' m' : Nat} (h : ToOut w bc NB B G n m w') (hn : n ≤ n') (hm : m ≤ m') : ToOut w bc NB B G n' m' w' := by
  obtain ⟨B', h1, h2⟩ := h
  exact ⟨B', h1.more hn hm, h2⟩
theorem tadd_any (w : World) (bc NB : Nat) (B : Nat → Option TagD) (G : Int → Int → Rf → Prop) (n m : Nat) (r c : Int) (f : Rf) (h : To w bc NB B G n m) (hf : mayF f = true) (hc : mayC r c = true) (hG : ¬ G r c f) (hm : m + 1 ≤ 4000000000000) (hn : n < 4000000000000) : Calls Tryz.prog 28 #[.agg #[.map (some bc), .pointer (some ⟨NB, 0, none⟩)], .agg #[.bool f.m, .int .i64 f.t, .int .i64 f.l, .int .i64 f.b, .int .i64 f.q], .agg #[.int .i64 r, .int .i64 c]] w fun e w' => e = .returned (.tuple #[]) ∧ ToOut w bc NB B (addG G r c f) (n + 1) (m + 1) w' := by
  cases hmm : f.m
  · obtain ⟨e, h1, h2⟩ := mayF_one hf hmm
    have hG' : ¬ G r c ⟨false, f.t, f.l, f.t, f.l⟩ := by rw [← e]; exact hG
    have hk := tadd_one w bc NB B G n m r c f.t f.l h h1 h2 hG' hm hn
    rw [← e] at hk
    have e2 : f.b = f.t ∧ f.q = f.l := by rw [e]; exact ⟨rfl, rfl⟩
    rw [e2.1, e2.2]
    exact hk
  · have e : f = ⟨true, f.t, f.l, f.b, f.q⟩ := by rw [← hmm]
    have hp : mayP ⟨r, c, f.t, f.l, f.b, f.q⟩ = true := by
      unfold mayP
      unfold mayF at hf
      simp only [Bool.and_eq_true] at hf ⊢
      exact ⟨hf.1, hc⟩
    have hk := tadd_many w bc NB B G n m ⟨r, c, f.t, f.l, f.b, f.q⟩ h hp hm
    refine hk.mono ?_
    rintro e' w' ⟨q1, q2⟩
    refine ⟨q1, ?_⟩
    simp only at q2
    rw [← e] at q2
    exact q2.more (by omega) (Nat.le_refl _)
theorem trem_any (w : World) (bc NB : Nat) (B : Nat → Option TagD) (G : Int → Int → Rf → Prop) (n m : Nat) (r c : Int) (f : Rf) (h : To w bc NB B G n m) (hf : mayF f = true) (hG : G r c f) (hm : m ≤ 4000000000000) (hn : n < 4000000000000) : Calls Tryz.prog 26 #[.agg #[.map (some bc), .pointer (some ⟨NB, 0, none⟩)], .agg #[.bool f.m, .int .i64 f.t, .int .i64 f.l, .int .i64 f.b, .int .i64 f.q], .agg #[.int .i64 r, .int .i64 c]] w fun e w' => e = .returned (.tuple #[]) ∧ ToOut w bc NB B (remG G r c f) (n + 1) m w' := by
  cases hmm : f.m
  · obtain ⟨e, h1, h2⟩ := mayF_one hf hmm
    have hG' : G r c ⟨false, f.t, f.l, f.t, f.l⟩ := by rw [← e]; exact hG
    have hk := trem_one w bc NB B G n m r c f.t f.l h h1 h2 hG' hm hn
    rw [← e] at hk
    have e2 : f.b = f.t ∧ f.q = f.l := by rw [e]; exact ⟨rfl, rfl⟩
    rw [e2.1, e2.2]
    exact hk
  · have e : f = ⟨true, f.t, f.l, f.b, f.q⟩ := by rw [← hmm]
    have hk := trem_many w bc NB B G n m ⟨r, c, f.t, f.l, f.b, f.q⟩ h hm
    refine hk.mono ?_
    rintro e' w' ⟨q1, q2⟩
    refine ⟨q1, ?_⟩
    simp only at q2
    rw [← e] at q2
    exact q2.more (by omega) (Nat.le_refl _)
/-- What a cell's references are kept by: the map at bf tells each cell's. -/
structure Fm (w : World) (bf : Nat) (B : Nat → Option TagD) (E : Int → Int → List Rf) (n : Nat) : Prop where
  map : ∃ ff, MapF w bf n ff ∧ ∀ r c, I64 r → I64 c → RowF w (ff r c) (E r c) ∧ (E r c = [] → ff r c = nilS) ∧ (∀ g, (ff r c).ownBlock = some g → B g = some (3, r, c))
  bfT : B bf = some (1, 0, 0)
/-- What is said of the references themselves. -/
structure EOk (E : Int → Int → List Rf) : Prop where
  srt : ∀ r c, (E r c).Pairwise (fun x y => cmpF x y < 0)
  may : ∀ r c, ∀ f ∈ E r c, mayF f = true ∧ mayC r c = true
def inE (E : Int → Int → List Rf) : Int → Int → Rf → Prop := fun r c f => f ∈ E r c
/-- A Deps at N: who refers to what is E, from both sides. -/
structure Dp (w : World) (N : Nat) (B : Nat → Option TagD) (E : Int → Int → List Rf) (n m : Nat) : Prop where
  ok : EOk E
  NT : B N = some (0, 0, 0)
  dom : ∀ b, w.heap.size ≤ b → B b = none
  cells : ∃ bf bc NB, Own w N #[.map (some bf), .map (some bc), .pointer (some ⟨NB, 0, none⟩)] ∧ Fm w bf B E n ∧ To w bc NB B (inE E) n m
theorem Fm.keep {w w' : World} {bf : Nat} {B : Nat → Option TagD} {E : Int → Int → List Rf} {n : Nat} (h : Fm w bf B E n) (hb : Below w.heap.size w w') : Fm w' bf B E n := by
  obtain ⟨⟨ff, h1, h2⟩, h3⟩ := h
  exact ⟨⟨ff, h1.keep hb, fun r c hr hc => ⟨RowG.keep (h2 r c hr hc).1 hb, (h2 r c hr hc).2⟩⟩, h3⟩
theorem Dp.keep {w w' : World} {N : Nat} {B : Nat → Option TagD} {E : Int → Int → List Rf} {n m : Nat} (h : Dp w N B E n m) (hb : Below w.heap.size w w') : Dp w' N B E n m := by
  obtain ⟨h1, h2, h0, bf, bc, NB, h3, h4, h5⟩ := h
  exact ⟨h1, h2, fun b q => h0 b (Nat.le_trans hb.size q), bf, bc, NB, h3.keep hb, h4.keep hb, h5.keep hb⟩
/-- What is turned is none of the map by who refers. -/
theorem Fm.mut {S : Nat → Prop} {w w' : World} {bf : Nat} {B B' : Nat → Option TagD} {E : Int → Int → List Rf} {n : Nat} (h : Fm w bf B E n) (hm : Mut S w w') (hs : ∀ b, S b → isTo (B b)) (hB : ∀ b, b < w.heap.size → B' b = B b) : Fm w' bf B' E n := by
  obtain ⟨⟨ff, h1, h2⟩, h3⟩ := h
  have hn : ∀ b x y k, B b = some (k, x, y) → (k = 1 ∨ k = 3) → ¬ S b := fun b x y k q hk q2 => by
    have := hs b q2
    rw [q] at this
    rcases this with e | e | e <;> omega
  refine ⟨⟨ff, h1.mut hm (hn bf 0 0 1 h3 (.inl rfl)), fun r c hr hc => ?_⟩, by rw [hB bf h1.lt]; exact h3⟩
  obtain ⟨k1, k2, k3⟩ := h2 r c hr hc
  exact ⟨RowG.mut k1 hm (fun g q => hn g r c 3 (k3 g q) (.inr rfl)), k2, fun g q => by rw [hB g (RowG.lt k1 g q).2]; exact k3 g q⟩
end Go.Proofs.YtgojnijpjfdocaaGreat
