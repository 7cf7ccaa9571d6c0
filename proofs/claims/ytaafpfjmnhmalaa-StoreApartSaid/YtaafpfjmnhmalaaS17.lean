/- What Drop leaves of a store (plain facts of memory), and the contract of Store.Drop: ErrAddr, or the cell has no content from then on. -/
import Derived.Test.YtaafpfjmnhmalaaS16
namespace Go.Proofs.Ytaafpfjmnhmalaa
open Go.RowKit
set_option linter.all false
/-- Without an empty chunk. -/
theorem SW.unchunk {w : World} {D : Nat → Option Nat} {S : Nat} {L : List It} (h : SW w D S L) {i : Nat} (hi : i < 64) (hrow : ∀ j, j < 64 → rowL L ((i * 64 + j + 1 : Nat) : Int) = []) : SW (w.setCell ⟨S, i, none⟩ (.pointer none)) D S L := by
  obtain ⟨A, a1, a2, a3, a4⟩ := h.own
  have hiA : i < A.size := by omega
  have hO : Own (w.setCell ⟨S, i, none⟩ (.pointer none)) S (A.setIfInBounds i (.pointer none)) := own_put' a1 hiA
  refine SW.step h i 0 0 A (A.setIfInBounds i (.pointer none)) #[] hi (by omega) (fun _ _ e => e) (fun k t e => by have := h.dom k t e; simpa [World.setCell] using this) a1 hO (by simp [a2]) ?_ ?_ ?_ (fun _ _ _ _ _ => rfl) ?_ h.srt h.ins
  · rw [Array.getElem?_setIfInBounds, if_neg (by omega)]; exact a3
  · intro k hk hn
    rw [Array.getElem?_setIfInBounds, if_neg (fun e => hn e.symm)]
  · intro k t e t0 _ _
    refine Below.heap_setCell w _ _ k (fun q => ?_)
    simp at q
    subst q
    rw [h.at0] at e
    injection e with e
    omega
  · exact ⟨_, by rw [Array.getElem?_setIfInBounds, if_pos rfl, if_pos hiA], .inl ⟨rfl, hrow⟩⟩
set_option maxHeartbeats 1000000 in
/-- Behind row.drop and the count. -/
theorem drop_fin {w w2 : World} {D : Nat → Option Nat} {S i j b : Nat} {L : List It} {A B : Array Value} {u : Value} {r c : Int} {e : Ending} (h : SW w D S L) (hi : i < 64) (hj : j < 64) (hr : r = ((i * 64 + j + 1 : Nat) : Int))
    (hA : Own w S A) (hv : A[i]? = some (.pointer (some ⟨b, 0, none⟩))) (hDb : D b = some (1 + i)) (hB : Own w b B) (hBs : B.size = 64)
    (hrows : ∀ j, j < 64 → ∃ u, B[j]? = some u ∧ RowW w u (rowL L ((i * 64 + j + 1 : Nat) : Int)) ∧ ∀ g, u.ownBlock = some g → D g = some (65 + (i * 64 + j)))
    (hp : RDrp w b j B (dropS (rowL L r) c) e w2) (hh : hasL L r c = true) :
    Own w2 S A ∧ A[64]? = some (.int .i64 L.length) ∧ 0 < L.length ∧ ∃ (D' : Nat → Option Nat) (B' : Array Value), SW (w2.setCell ⟨S, 64, none⟩ (.int .i64 ((L.length : Int) - 1))) D' S (dropL L r c) ∧ Mut (fun k => (D k).isSome = true) w (w2.setCell ⟨S, 64, none⟩ (.int .i64 ((L.length : Int) - 1))) ∧ (∀ k, (D' k).isSome = true → (D k).isSome = true ∨ w.heap.size ≤ k) ∧ Own (w2.setCell ⟨S, 64, none⟩ (.int .i64 ((L.length : Int) - 1))) b B' ∧ (∀ j, j < 64 → ∃ u, B'[j]? = some u ∧ RowW (w2.setCell ⟨S, 64, none⟩ (.int .i64 ((L.length : Int) - 1))) u (rowL (dropL L r c) ((i * 64 + j + 1 : Nat) : Int))) := by
  obtain ⟨_, v', o1, o2, o3, o4⟩ := hp
  have hSb : S ≠ b := by intro q; subst q; rw [h.at0] at hDb; injection hDb with q; omega
  have hOS : Own w2 S A := hA.mut o4 (fun q => hSb q)
  obtain ⟨A0, a1, a2, a3, a4⟩ := h.own
  have eA : ∀ i, A0[i]? = A[i]? := fun i => (a1.cell i).symm.trans (hA.cell i)
  have h64 : A[64]? = some (.int .i64 L.length) := by rw [← eA 64]; exact a3
  have hsA : A.size = 65 := by
    have q2 : A0[65]? = none := by simp [a2]
    rw [eA 65] at q2
    have := (Array.getElem?_eq_some_iff.1 h64).1
    have := Array.getElem?_eq_none_iff.1 q2
    omega
  have hDD : ∀ k t, D k = some t → (if v'.ownBlock = some k then some (65 + (i * 64 + j)) else D k) = some t := by
    intro k t ek
    by_cases q : v'.ownBlock = some k
    · have := o3 k q
      have := h.dom k t ek
      omega
    · rw [if_neg q]; exact ek
  have hvlt : ∀ k, v'.ownBlock = some k → k < w2.heap.size := o2.lt
  have hvS : v'.ownBlock ≠ some S := by intro q; have := o3 S q; have := h.lt; omega
  have hvb : v'.ownBlock ≠ some b := by intro q; have := o3 b q; have := hB.lt; omega
  have hrowE : rowL (dropL L r c) ((i * 64 + j + 1 : Nat) : Int) = dropS (rowL L r) c := by rw [← hr]; exact row_drop L r c
  have hlen : (dropL L r c).length = L.length - 1 := by rw [dropL_len h.srt, if_pos hh]
  have hpos : 0 < L.length := by
    have h1 := len_parts L r c
    rw [len_at h.srt r c, if_pos hh] at h1
    omega
  obtain ⟨w3, hw3⟩ : ∃ w3, w3 = w2.setCell ⟨S, 64, none⟩ (.int .i64 ((L.length : Int) - 1)) := ⟨_, rfl⟩
  have z1 : w2.heap.size ≤ w3.heap.size := by rw [hw3]; simp [World.setCell]
  have z2 : ∀ k, k ≠ S → w3.heap[k]? = w2.heap[k]? := fun k hk => by rw [hw3]; exact Below.heap_setCell w2 _ _ k hk
  have z6 : Own w3 S (A.setIfInBounds 64 (.int .i64 ((L.length : Int) - 1))) := by rw [hw3]; exact own_put' hOS (by omega)
  have hos : w3.os = w2.os ∧ w3.tape = w2.tape ∧ w3.output = w2.output := by rw [hw3]; exact ⟨rfl, rfl, rfl⟩
  rw [← hw3]
  have hOB : Own w3 b (B.setIfInBounds j v') := o1.of_block (z2 b (fun q => hSb q.symm))
  have hall : ∀ m, m < 64 → ∃ u, (B.setIfInBounds j v')[m]? = some u ∧ RowW w3 u (rowL (dropL L r c) ((i * 64 + m + 1 : Nat) : Int)) ∧ ∀ g, u.ownBlock = some g → (if v'.ownBlock = some g then some (65 + (i * 64 + j)) else D g) = some (65 + (i * 64 + m)) := by
    intro m hm2
    by_cases q : m = j
    · subst q
      refine ⟨v', by rw [Array.getElem?_setIfInBounds, if_pos rfl, if_pos (by omega)], ?_, fun g hg => if_pos hg⟩
      rw [hrowE]
      exact o2.of_block (fun g hg => z2 g (fun q => by subst q; exact hvS hg))
    · obtain ⟨y, y1, y2, y3⟩ := hrows m hm2
      refine ⟨y, by rw [Array.getElem?_setIfInBounds, if_neg (fun e => q e.symm)]; exact y1, ?_, fun g hg => hDD _ _ (y3 g hg)⟩
      rw [row_drop_o L c (fun q2 => by rw [hr] at q2; omega)]
      refine (y2.mut o4 ?_).of_block (fun g hg => z2 g (fun q => by subst q; have := y3 _ hg; rw [h.at0] at this; injection this with q; omega))
      intro g hg q2
      subst q2
      have := y3 _ hg
      rw [hDb] at this
      injection this with q
      omega
  refine ⟨hOS, h64, hpos, fun k => if v'.ownBlock = some k then some (65 + (i * 64 + j)) else D k, B.setIfInBounds j v', ?_, ?_, ?_, hOB, fun m hm => by obtain ⟨y, y1, y2, _⟩ := hall m hm; exact ⟨y, y1, y2⟩⟩
  · refine SW.step h i j b A (A.setIfInBounds 64 (.int .i64 ((L.length : Int) - 1))) #[] hi hj hDD ?_ hA z6 (by simp [hsA]) ?_ (fun k hk _ => by rw [Array.getElem?_setIfInBounds, if_neg (by omega)]) ?_ ?_ ?_ (dropL_srt h.srt r c) (h.ins.drop r c)
    · intro k t ek
      by_cases q : v'.ownBlock = some k
      · exact Nat.lt_of_lt_of_le (hvlt k q) z1
      · rw [if_neg q] at ek
        have := h.dom k t ek
        have := o4.size
        omega
    · rw [Array.getElem?_setIfInBounds, if_pos rfl, if_pos (by omega), hlen]
      congr 2
      omega
    · intro k t ek t0 t1 t2
      rw [z2 k (fun q => by subst q; rw [h.at0] at ek; injection ek with q; omega)]
      refine o4.block k (h.dom k t ek) (fun q => ?_)
      subst q; rw [hDb] at ek; injection ek with q; omega
    · intro k m hk hm2 hne
      refine row_drop_o L c (fun q => ?_)
      rw [hr] at q
      omega
    · exact ⟨_, by rw [Array.getElem?_setIfInBounds, if_neg (by omega)]; exact hv, .inr ⟨b, B.setIfInBounds j v', rfl, hDD _ _ hDb, hOB, by simp [hBs], hall⟩⟩
  · refine ⟨hos.1.trans o4.os, hos.2.1.trans o4.tape, hos.2.2.trans o4.output, Nat.le_trans o4.size z1, fun k hk hn => ?_⟩
    rw [z2 k (fun q => by subst q; exact hn (by rw [h.at0]; rfl))]
    refine o4.block k hk (fun q => ?_)
    subst q; exact hn (by rw [hDb]; rfl)
  · intro k hk
    by_cases q : v'.ownBlock = some k
    · exact .inr (o3 k q)
    · simp only [if_neg q] at hk; exact .inl hk
end Go.Proofs.Ytaafpfjmnhmalaa
