/- What Put leaves of a store (plain facts of memory): behind a new chunk, behind row.put, behind the count. No function's text is walked here. -/
import Derived.Test.YtaafpfjmnhmalaaS7
namespace Go.Proofs.Ytaafpfjmnhmalaa
open Go.RowKit
set_option linter.all false
/-- A store that may be another one, in blocks of its own or new ones. -/
def SOut (w : World) (D : Nat → Option Nat) (S : Nat) (L' : List It) (w' : World) : Prop :=
  ∃ D', SW w' D' S L' ∧ Mut (fun k => (D k).isSome = true) w w' ∧ ∀ k, (D' k).isSome = true → (D k).isSome = true ∨ w.heap.size ≤ k
theorem SOut.refl {w w' : World} {D : Nat → Option Nat} {S : Nat} {L : List It} (h : SW w D S L) (hb : Below w.heap.size w w') : SOut w D S L w' :=
  ⟨D, h.keep hb, Mut.of_below hb, fun k hk => .inl hk⟩
theorem SOut.pre {w w1 w' : World} {D : Nat → Option Nat} {S : Nat} {L' : List It} (hb : Below w.heap.size w w1) (h : SOut w1 D S L' w') : SOut w D S L' w' := by
  obtain ⟨D', h1, h2, h3⟩ := h
  exact ⟨D', h1, (Mut.of_below hb).call h2 (fun k hk => .inl hk), fun k hk => (h3 k hk).imp id (fun q => Nat.le_trans hb.size q)⟩
/-- An empty chunk more. -/
theorem SW.chunk {w : World} {D : Nat → Option Nat} {S : Nat} {L : List It} (h : SW w D S L) {i : Nat} (hi : i < 64) (A : Array Value) (hA : Own w S A) (hv : A[i]? = some (.pointer none)) (T : TypeId) :
    SW ((w.alloc (.cells zK T)).setCell ⟨S, i, none⟩ (.pointer (some ⟨w.heap.size, 0, none⟩))) (fun k => if k = w.heap.size then some (1 + i) else D k) S L ∧
    Own ((w.alloc (.cells zK T)).setCell ⟨S, i, none⟩ (.pointer (some ⟨w.heap.size, 0, none⟩))) S (A.setIfInBounds i (.pointer (some ⟨w.heap.size, 0, none⟩))) ∧
    Own ((w.alloc (.cells zK T)).setCell ⟨S, i, none⟩ (.pointer (some ⟨w.heap.size, 0, none⟩))) w.heap.size zK := by
  have hS := h.lt
  obtain ⟨A0, a1, a2, a3, a4⟩ := h.own
  have eA : ∀ i, A0[i]? = A[i]? := fun i => (a1.cell i).symm.trans (hA.cell i)
  have hsA : A.size = 65 := by
    have q1 : A[64]? = some _ := (eA 64).symm.trans a3
    have q2 : A0[65]? = none := by simp [a2]
    rw [eA 65] at q2
    have := (Array.getElem?_eq_some_iff.1 q1).1
    have := Array.getElem?_eq_none_iff.1 q2
    omega
  have hiA : i < A.size := by omega
  have hold : ∀ k, k < w.heap.size → k ≠ S → ((w.alloc (.cells zK T)).setCell ⟨S, i, none⟩ (.pointer (some ⟨w.heap.size, 0, none⟩))).heap[k]? = w.heap[k]? := fun k hk hn =>
    (Below.heap_setCell _ _ _ k hn).trans (Below.heap_alloc w _ k hk)
  have hOS : Own ((w.alloc (.cells zK T)).setCell ⟨S, i, none⟩ (.pointer (some ⟨w.heap.size, 0, none⟩))) S (A.setIfInBounds i (.pointer (some ⟨w.heap.size, 0, none⟩))) := own_put' (hA.past _) hiA
  have hOK : Own ((w.alloc (.cells zK T)).setCell ⟨S, i, none⟩ (.pointer (some ⟨w.heap.size, 0, none⟩))) w.heap.size zK := (Own.new w zK T).aside _ (by simp; omega)
  refine ⟨?_, hOS, hOK⟩
  obtain ⟨v, v1, v2⟩ := a4 i hi
  have hrow : ∀ j, j < 64 → rowL L ((i * 64 + j + 1 : Nat) : Int) = [] := by
    rw [eA i, hv] at v1
    injection v1 with v1
    subst v1
    rcases v2 with ⟨_, v2⟩ | ⟨b, B, e, _⟩
    · exact v2
    · cases e
  refine SW.step h i 0 0 A (A.setIfInBounds i (.pointer (some ⟨w.heap.size, 0, none⟩))) #[] hi (by omega) ?_ ?_ hA hOS (by simp [hsA]) ?_ ?_ ?_ (fun _ _ _ _ _ => rfl) ?_ h.srt h.ins
  · intro k t e
    have := h.dom k t e
    have q : ¬ k = w.heap.size := by omega
    simp [q, e]
  · intro k t e
    by_cases q : k = w.heap.size
    · subst q; simp [World.setCell]
    · have e2 : D k = some t := by simpa [q] using e
      have := h.dom k t e2
      simp [World.setCell]; omega
  · rw [Array.getElem?_setIfInBounds, if_neg (by omega), ← eA 64]; exact a3
  · intro k hk hn
    rw [Array.getElem?_setIfInBounds, if_neg (fun e => hn e.symm)]
  · intro k t e t0 _ _
    refine hold k (h.dom k t e) (fun q => ?_)
    subst q
    rw [h.at0] at e
    injection e with e
    omega
  · refine ⟨_, by rw [Array.getElem?_setIfInBounds, if_pos rfl, if_pos hiA], .inr ⟨w.heap.size, zK, rfl, by simp, hOK, zK_at.1, fun j hj => ⟨_, zK_at.2 j hj, ?_, fun g hg => by cases hg⟩⟩⟩
    rw [hrow j hj]
    exact RowW.nil _
set_option maxHeartbeats 1000000 in
/-- Behind row.put and the count. -/
theorem put_fin {w w2 : World} {D : Nat → Option Nat} {S i j b : Nat} {L : List It} {A B : Array Value} {u : Value} {r c : Int} {x : Option Addr} {f : Bool} {e : Ending} (h : SW w D S L) (hi : i < 64) (hj : j < 64) (hr : r = ((i * 64 + j + 1 : Nat) : Int)) (hm : mayC r c = true)
    (hA : Own w S A) (hv : A[i]? = some (.pointer (some ⟨b, 0, none⟩))) (hDb : D b = some (1 + i)) (hB : Own w b B) (hBs : B.size = 64)
    (hrows : ∀ j, j < 64 → ∃ u, B[j]? = some u ∧ RowW w u (rowL L ((i * 64 + j + 1 : Nat) : Int)) ∧ ∀ g, u.ownBlock = some g → D g = some (65 + (i * 64 + j)))
    (hu : B[j]? = some u) (hp : RPut w b j B u (putS (rowL L r) c x) f e w2) (hf : f = !hasL L r c) :
    Own w2 S A ∧ A[64]? = some (.int .i64 L.length) ∧ (f = true → SOut w D S (putL L r c x) (w2.setCell ⟨S, 64, none⟩ (.int .i64 ((L.length : Int) + 1)))) ∧ (f = false → SOut w D S (putL L r c x) w2) := by
  obtain ⟨_, v', o1, o2, o3, o4⟩ := hp
  obtain ⟨u0, u1, u2, u3⟩ := hrows j hj
  rw [hu] at u1
  injection u1 with u1
  subst u1
  have hmm := mayC_is hm
  have hSb : S ≠ b := by intro q; subst q; rw [h.at0] at hDb; injection hDb with q; omega
  have hSu : u.ownBlock ≠ some S := by intro q; have := u3 S q; rw [h.at0] at this; injection this with q; omega
  have hOS : Own w2 S A := hA.mut o4 (by rintro (q | q); exact hSb q; exact hSu q)
  obtain ⟨A0, a1, a2, a3, a4⟩ := h.own
  have eA : ∀ i, A0[i]? = A[i]? := fun i => (a1.cell i).symm.trans (hA.cell i)
  have h64 : A[64]? = some (.int .i64 L.length) := by rw [← eA 64]; exact a3
  have hsA : A.size = 65 := by
    have q2 : A0[65]? = none := by simp [a2]
    rw [eA 65] at q2
    have := (Array.getElem?_eq_some_iff.1 h64).1
    have := Array.getElem?_eq_none_iff.1 q2
    omega
  have hDD : ∀ k t, D k = some t → (if v'.ownBlock = some k then some (65 + (i * 64 + j)) else D k) = some t := by
    intro k t ek
    by_cases q : v'.ownBlock = some k
    · rw [if_pos q]
      rcases o3 with o3 | ⟨g, o3, o5⟩
      · rw [o3] at q
        rw [u3 k q] at ek
        exact ek
      · rw [o3] at q
        injection q with q
        subst q
        have := h.dom g t ek
        omega
    · rw [if_neg q]; exact ek
  have hvlt : ∀ k, v'.ownBlock = some k → k < w2.heap.size := o2.lt
  have hvS : v'.ownBlock ≠ some S := by
    intro q
    rcases o3 with o3 | ⟨g, o3, o5⟩
    · exact hSu (o3.symm.trans q)
    · rw [o3] at q; injection q with q; subst q; have := h.lt; omega
  have hvb : v'.ownBlock ≠ some b := by
    intro q
    rcases o3 with o3 | ⟨g, o3, o5⟩
    · rw [o3] at q; have := u3 b q; rw [hDb] at this; injection this with q; omega
    · rw [o3] at q; injection q with q; subst q; have := hB.lt; omega
  have hrowE : rowL (putL L r c x) ((i * 64 + j + 1 : Nat) : Int) = putS (rowL L r) c x := by rw [← hr]; exact row_put L r c x
  -- the main part: a world with the same blocks but S
  have main : ∀ (w3 : World) (A' : Array Value), w2.heap.size ≤ w3.heap.size → (∀ k, k ≠ S → w3.heap[k]? = w2.heap[k]?) → w3.os = w2.os → w3.tape = w2.tape → w3.output = w2.output → Own w3 S A' → A'.size = 65 → A'[64]? = some (.int .i64 (putL L r c x).length) → (∀ k, k < 64 → A'[k]? = A[k]?) → SOut w D S (putL L r c x) w3 := by
    intro w3 A' z1 z2 z3 z4 z5 z6 z7 z8 z9
    refine ⟨fun k => if v'.ownBlock = some k then some (65 + (i * 64 + j)) else D k, ?_, ?_, ?_⟩
    · refine SW.step h i j b A A' #[] hi hj hDD ?_ hA z6 z7 z8 (fun k hk _ => z9 k hk) ?_ ?_ ?_ (putL_srt h.srt r c x) (h.ins.put hmm)
      · intro k t ek
        by_cases q : v'.ownBlock = some k
        · exact Nat.lt_of_lt_of_le (hvlt k q) z1
        · rw [if_neg q] at ek
          have := h.dom k t ek
          have := o4.size
          omega
      · intro k t ek t0 t1 t2
        rw [z2 k (fun q => by subst q; rw [h.at0] at ek; injection ek with q; omega)]
        refine o4.block k (h.dom k t ek) ?_
        rintro (q | q)
        · subst q; rw [hDb] at ek; injection ek with q; omega
        · have := u3 k q; rw [ek] at this; injection this with q; omega
      · intro k m hk hm2 hne
        refine row_put_o L c x (fun q => ?_)
        rw [hr] at q
        omega
      · refine ⟨_, (z9 i hi).trans hv, .inr ⟨b, B.setIfInBounds j v', rfl, hDD _ _ hDb, o1.of_block (z2 b (fun q => hSb q.symm)), by simp [hBs], fun m hm2 => ?_⟩⟩
        by_cases q : m = j
        · subst q
          refine ⟨v', by rw [Array.getElem?_setIfInBounds, if_pos rfl, if_pos (by omega)], ?_, fun g hg => if_pos hg⟩
          rw [hrowE]
          exact o2.of_block (fun g hg => z2 g (fun q => by subst q; exact hvS hg))
        · obtain ⟨y, y1, y2, y3⟩ := hrows m hm2
          refine ⟨y, by rw [Array.getElem?_setIfInBounds, if_neg (fun e => q e.symm)]; exact y1, ?_, fun g hg => hDD _ _ (y3 g hg)⟩
          rw [row_put_o L c x (fun q2 => by rw [hr] at q2; omega)]
          refine (y2.mut o4 ?_).of_block (fun g hg => z2 g (fun q => by subst q; have := y3 _ hg; rw [h.at0] at this; injection this with q; omega))
          rintro g hg (q2 | q2)
          · subst q2; have := y3 _ hg; rw [hDb] at this; injection this with q; omega
          · have k1 := y3 _ hg; have k2 := u3 _ q2; rw [k1] at k2; injection k2 with k2; omega
    · refine ⟨z3.trans o4.os, z4.trans o4.tape, z5.trans o4.output, Nat.le_trans o4.size z1, fun k hk hn => ?_⟩
      rw [z2 k (fun q => by subst q; exact hn (by rw [h.at0]; rfl))]
      refine o4.block k hk ?_
      rintro (q | q)
      · subst q; exact hn (by rw [hDb]; rfl)
      · exact hn (by rw [u3 k q]; rfl)
    · intro k hk
      by_cases q : v'.ownBlock = some k
      · rcases o3 with o3 | ⟨g, o3, o5⟩
        · rw [o3] at q; exact .inl (by rw [u3 k q]; rfl)
        · rw [o3] at q; injection q with q; subst q; exact .inr o5
      · simp only [if_neg q] at hk; exact .inl hk
  refine ⟨hOS, h64, fun ef => ?_, fun ef => ?_⟩
  · have hlen : (putL L r c x).length = L.length + 1 := by
      have : hasL L r c = false := by rw [ef] at hf; cases q : hasL L r c; rfl; rw [q] at hf; cases hf
      rw [putL_len h.srt, if_neg (by rw [this]; decide)]
    refine main _ (A.setIfInBounds 64 (.int .i64 ((L.length : Int) + 1))) (by simp [World.setCell]) (fun k hk => Below.heap_setCell w2 _ _ k hk) rfl rfl rfl (own_put' hOS (by omega)) (by simp [hsA]) ?_ (fun k hk => by rw [Array.getElem?_setIfInBounds, if_neg (by omega)])
    rw [Array.getElem?_setIfInBounds, if_pos rfl, if_pos (by omega), hlen]
    rfl
  · have hlen : (putL L r c x).length = L.length := by
      have : hasL L r c = true := by rw [ef] at hf; cases q : hasL L r c; rw [q] at hf; cases hf; rfl
      rw [putL_len h.srt, if_pos this]
    exact main w2 A (Nat.le_refl _) (fun _ _ => rfl) rfl rfl rfl hOS hsA (by rw [hlen]; exact h64) (fun _ _ => rfl)
end Go.Proofs.Ytaafpfjmnhmalaa
