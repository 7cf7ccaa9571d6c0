/- A clock behind some steps: what Change, See and Drop make of it, in one contract each. -/
import Derived.Test.YtmajbophgdimlaaKZ
namespace Go.Proofs.Ytmajbophgdimlaa
open Go.RowKit
set_option linter.all false
/-- A clock at N behind i steps that named the cells of L alone. -/
structure Cz (F : Nat → Prop) (w : World) (N : Nat) (most last turns : Int) (S : St) (i : Nat) (L : List Cl) : Prop where
  ck : ∃ bm G, Ck F w N bm G most last turns S i
  low : Low most last S
  turn : 0 ≤ turns ∧ turns ≤ i
  dom : ∀ a b, S a b ≠ none → (⟨a, b⟩ : Cl) ∈ L
  len : L.length ≤ i
theorem Cz.keep {F : Nat → Prop} {w w' : World} {N : Nat} {most last turns : Int} {S : St} {i : Nat} {L : List Cl} (h : Cz F w N most last turns S i L) (hb : Below w.heap.size w w') : Cz F w' N most last turns S i L := by
  obtain ⟨bm, G, hc⟩ := h.ck
  exact { h with ck := ⟨bm, G, hc.keep hb⟩ }
theorem Cz.more {F : Nat → Prop} {w : World} {N : Nat} {most last turns : Int} {S : St} {i : Nat} {L : List Cl} (h : Cz F w N most last turns S i L) (c : Cl) : Cz F w N most last turns S (i + 1) (c :: L) := by
  obtain ⟨bm, G, hc⟩ := h.ck
  have := h.turn
  exact ⟨⟨bm, G, hc.more (by omega)⟩, h.low, ⟨this.1, by omega⟩, fun a b q => List.mem_cons_of_mem _ (h.dom a b q), by have := h.len; rw [List.length_cons]; omega⟩
theorem sub_len {α : Type} : ∀ (K L : List α), K.Nodup → K ⊆ L → K.length ≤ L.length
  | [], L, _, _ => Nat.zero_le _
  | c :: K, L, hn, hs => by
    rw [List.nodup_cons] at hn
    obtain ⟨A, B, rfl⟩ := List.append_of_mem (hs (List.mem_cons_self ..))
    have := sub_len K (A ++ B) hn.2 (fun d hd => by
      have hne : d ≠ c := fun q => hn.1 (by rw [← q]; exact hd)
      rcases List.mem_append.1 (hs (List.mem_cons_of_mem _ hd)) with q | q
      · exact List.mem_append.2 (.inl q)
      · rcases List.mem_cons.1 q with q | q
        · exact absurd q hne
        · exact List.mem_append.2 (.inr q))
    rw [List.length_append] at this
    rw [List.length_cons, List.length_append, List.length_cons]
    omega
theorem few_of {S : St} {L : List Cl} (hd : ∀ a b, S a b ≠ none → (⟨a, b⟩ : Cl) ∈ L) (K : List Cl) (hn : K.Nodup) (hk : ∀ k ∈ K, S k.r k.c ≠ none) : K.length ≤ L.length := by
  have : K ⊆ L := fun c hc => hd c.r c.c (hk c hc)
  exact sub_len K L hn this
/-- What a change that is taken makes of what is newer. -/
structure Nw (S S' : St) (x y : Int) : Prop where
  new : ∀ b : Cl, sen S' b.r b.c < chg S' x y
  old : ∀ a b : Cl, ¬ (a.r = x ∧ a.c = y) → (sen S' b.r b.c < chg S' a.r a.c ↔ sen S b.r b.c < chg S a.r a.c)
theorem nw_low {most last : Int} {S : St} (h : Low most last S) (x y : Int) : Nw S (upS S x y (some (last + 1, sen S x y))) x y := by
  have hs : ∀ b : Cl, sen (upS S x y (some (last + 1, sen S x y))) b.r b.c = sen S b.r b.c := fun b => by
    rw [sen_up]
    split
    · rename_i t; rw [t.1, t.2]
    · rfl
  refine ⟨fun b => ?_, fun a b t => ?_⟩
  · rw [hs, chg_up, if_pos ⟨rfl, rfl⟩]
    have := (h.bd b.r b.c).2.2.2
    simp only
    omega
  · rw [hs, chg_up, if_neg t]
theorem nw_anew {most last : Int} {S : St} (h : Low most last S) {x y : Int} {l : List Cl} (hl : IsOth S x y l) : Nw S (upS (anewS S l) x y (some ((l.length : Int) + 1, sen (anewS S l) x y))) x y := by
  have hs : ∀ b : Cl, sen (upS (anewS S l) x y (some ((l.length : Int) + 1, sen (anewS S l) x y))) b.r b.c = sen (anewS S l) b.r b.c := fun b => by
    rw [sen_up]
    split
    · rename_i t; rw [t.1, t.2]
    · rfl
  refine ⟨fun b => ?_, fun a b t => ?_⟩
  · rw [hs, chg_up, if_pos ⟨rfl, rfl⟩]
    have := (sen_anew_bd hl b).2
    simp only
    omega
  · rw [hs, chg_up, if_neg t]
    by_cases ha : a ∈ l
    · obtain ⟨k, hk⟩ := List.mem_iff_getElem?.1 ha
      have hc : chg (anewS S l) a.r a.c = (k : Int) + 1 := by unfold chg; rw [anew_in hl hk]
      rw [hc]
      exact anew_newer hl hk b
    · have h0 : ¬ 0 < chg S a.r a.c := fun q => ha ((hl.1 a).2 ⟨t, q⟩)
      have hc : chg (anewS S l) a.r a.c = chg S a.r a.c := by
        rw [← chg_seenA S l]
        unfold chg
        rw [anew_out ha]
      have h1 := (sen_anew_bd hl b).1
      have h2 := (h.bd b.r b.c).2.2.1
      rw [hc]
      omega
theorem numP_none {S : St} {x y : Int} {l : List Cl} (h : IsOth S x y l) (a b : Int) (q : anewS S l a b ≠ none) : S a b ≠ none := by
  intro e
  have hn : (⟨a, b⟩ : Cl) ∉ l := fun hm => by
    have := ((h.1 _).1 hm).2
    unfold chg at this
    simp only at this
    rw [e] at this
    cases this
  have := anew_out (S := S) hn
  simp only at this
  rw [this] at q
  unfold seenA at q
  rw [e] at q
  exact q rfl
theorem cz_change (w : World) (F : Nat → Prop) (N : Nat) (most last turns : Int) (S : St) (i : Nat) (L : List Cl) (x y : Int) (h : Cz F w N most last turns S i L) (hx : I64 x) (hy : I64 y) (hF : ∀ b, F b → b < w.heap.size) (hm : 2 ≤ most ∧ most ≤ 1099511627776) (hi : i ≤ 3600000000000) :
    Calls Try.prog 10 #[.pointer (some ⟨N, 0, none⟩), .agg #[.int .i64 x, .int .i64 y]] w fun e w' => ∃ (code last' turns' : Int) (S' : St), e = .returned (.int .i64 code) ∧ Cz F w' N most last' turns' S' (i + 1) (⟨x, y⟩ :: L) ∧ Mut (fun b => ¬ F b) w w' ∧
      ((code = 3 ∧ mayC x y = false ∧ S' = S) ∨ (code = 50 ∧ mayC x y = true ∧ S' = S ∧ ∃ l, IsOth S x y l ∧ most - 1 ≤ l.length) ∨ (code = 0 ∧ mayC x y = true ∧ Nw S S' x y)) := by
  obtain ⟨bm, G, hc⟩ := h.ck
  have ht := h.turn
  have hlo := h.low
  have hle := h.len
  have hL1 : ∀ (S' : St), (∀ a b, S' a b ≠ none → S a b ≠ none) → ∀ p a b, upS S' x y p a b ≠ none → (⟨a, b⟩ : Cl) ∈ ((⟨x, y⟩ : Cl) :: L) := fun S' hS' p a b q => by
    by_cases t : a = x ∧ b = y
    · rw [t.1, t.2]; exact List.mem_cons_self ..
    · rw [upS_other t] at q
      exact List.mem_cons_of_mem _ (h.dom a b (hS' a b q))
  have hL2 : ((⟨x, y⟩ : Cl) :: L).length ≤ i + 1 := by rw [List.length_cons]; omega
  have h1 := hlo.lo
  have h2 := hlo.hi
  cases hmy : mayC x y with
  | false =>
    refine (kchg_no w F N bm G most last turns S i x y hc hmy).mono ?_
    rintro e w' ⟨rfl, hb⟩
    exact ⟨3, last, turns, S, rfl, (h.keep hb).more ⟨x, y⟩, Mut.of_below hb, .inl ⟨rfl, rfl, rfl⟩⟩
  | true =>
    by_cases hl : last + 1 = most
    · obtain ⟨l, hl1, hl2⟩ := isOth_ex x y (few_of h.dom) hlo.dis
      by_cases hfull : most - 1 ≤ l.length
      · refine (kchg_full w F N bm G most last turns S i L.length x y hc hx hy (by omega) (few_of h.dom) hlo.dis hF ⟨hm.1, by omega⟩ (fun a b p e => by have := hlo.st a b p e; omega) (by omega) (by omega) hmy hl l hl1 hl2 hfull).mono ?_
        rintro e w' ⟨rfl, hb⟩
        exact ⟨50, last, turns, S, rfl, (h.keep hb).more ⟨x, y⟩, Mut.of_below hb, .inr (.inl ⟨rfl, rfl, rfl, l, hl1, hfull⟩)⟩
      · refine (kchg_new w F N bm G most last turns S i L.length x y hc hx hy (by omega) (few_of h.dom) hlo.dis hF ⟨hm.1, by omega⟩ (fun a b p e => by have := hlo.st a b p e; omega) (by omega) (by omega) hmy hl l hl1 hl2 (by omega)).mono ?_
        rintro e w' ⟨rfl, ⟨G', k1⟩, k2⟩
        exact ⟨0, _, _, _, rfl, ⟨⟨bm, G', k1⟩, hlo.anew hl1 (by omega), by constructor <;> push_cast <;> omega, hL1 _ (numP_none hl1) _, hL2⟩, k2, .inr (.inr ⟨rfl, rfl, nw_anew hlo hl1⟩)⟩
    · refine (kchg_low w F N bm G most last turns S i x y hc hx hy hF (by omega) hmy hl (by omega)).mono ?_
      rintro e w' ⟨rfl, ⟨G', k1⟩, k2⟩
      exact ⟨0, _, _, _, rfl, ⟨⟨bm, G', k1⟩, hlo.put x y (by omega), by constructor <;> push_cast <;> omega, hL1 S (fun _ _ q => q) _, hL2⟩, k2, .inr (.inr ⟨rfl, rfl, nw_low hlo x y⟩)⟩
theorem cz_see (w : World) (F : Nat → Prop) (N : Nat) (most last turns : Int) (S : St) (i : Nat) (L : List Cl) (x y : Int) (h : Cz F w N most last turns S i L) (hx : I64 x) (hy : I64 y) (hF : ∀ b, F b → b < w.heap.size) (hi : i ≤ 3600000000000) :
    Calls Try.prog 9 #[.pointer (some ⟨N, 0, none⟩), .agg #[.int .i64 x, .int .i64 y]] w fun e w' => e = .returned (.tuple #[]) ∧ Cz F w' N most last turns (seeS S last x y) (i + 1) (⟨x, y⟩ :: L) ∧ Mut (fun b => ¬ F b) w w' := by
  obtain ⟨bm, G, hc⟩ := h.ck
  refine (ksee_any w F N bm G most last turns S i x y hc hx hy hF (by omega)).mono ?_
  rintro e w' ⟨rfl, ⟨G', k1⟩, k2⟩
  have ht := h.turn
  refine ⟨rfl, ⟨⟨bm, G', k1⟩, h.low.see x y, by constructor <;> push_cast <;> omega, fun a b q => ?_, by have := h.len; rw [List.length_cons]; omega⟩, k2⟩
  by_cases t : a = x ∧ b = y
  · rw [t.1, t.2]; exact List.mem_cons_self ..
  · unfold seeS at q
    split at q
    · rw [upS_other t] at q; exact List.mem_cons_of_mem _ (h.dom a b q)
    · exact List.mem_cons_of_mem _ (h.dom a b q)
theorem cz_drop (w : World) (F : Nat → Prop) (N : Nat) (most last turns : Int) (S : St) (i : Nat) (L : List Cl) (x y : Int) (h : Cz F w N most last turns S i L) (hx : I64 x) (hy : I64 y) :
    Calls Try.prog 11 #[.pointer (some ⟨N, 0, none⟩), .agg #[.int .i64 x, .int .i64 y]] w fun e w' => e = .returned (.tuple #[]) ∧ Cz F w' N most last turns (upS S x y none) (i + 1) (⟨x, y⟩ :: L) ∧ Mut (fun b => ¬ F b) w w' := by
  obtain ⟨bm, G, hc⟩ := h.ck
  refine (kdrop_any w F N bm G most last turns S i x y hc hx hy).mono ?_
  rintro e w' ⟨rfl, k1, k2⟩
  have ht := h.turn
  refine ⟨rfl, ⟨⟨bm, G, k1.more (by omega)⟩, h.low.drop x y, by constructor <;> push_cast <;> omega, fun a b q => ?_, by have := h.len; rw [List.length_cons]; omega⟩, k2⟩
  by_cases t : a = x ∧ b = y
  · rw [t.1, t.2]; exact List.mem_cons_self ..
  · rw [upS_other t] at q; exact List.mem_cons_of_mem _ (h.dom a b q)
theorem cz_new (w : World) (most : Int) (h1 : 2 ≤ most) (h2 : most ≤ 1099511627776) : Calls Try.prog 6 #[.int .i64 most] w fun e w' => ∃ N, e = .returned (.tuple #[.pointer (some ⟨N, 0, none⟩), .int .i64 0]) ∧ Cz (fun b => b < w.heap.size) w' N most 0 0 (fun _ _ => none) 0 [] ∧ Below w.heap.size w w' := by
  refine (knew_any w most h1 h2).mono ?_
  rintro e w' ⟨N, bm, rfl, k1, k2⟩
  exact ⟨N, rfl, ⟨⟨bm, _, k1⟩, ⟨Int.le_refl _, by omega, fun a b p e => (by cases e), fun c d q => (by cases q)⟩, ⟨Int.le_refl _, by simp⟩, fun a b q => absurd rfl q, Nat.le_refl _⟩, k2⟩
end Go.Proofs.Ytmajbophgdimlaa
