/- The tokens from a place on, told one by one as the document tells them, in plain lists. No walk. · The document's Lex: its answer is the list of the very tokens that the program tells. New memory alone is made. The condition: a text of at most 1048576 bytes. -/
import Derived.Test.YtaamphdihmghhaaGreatDoorQRNRL8
import Derived.Test.YtaamphdihmghhaaGreatDoorQRL2
import Derived.Test.YtaamphdihmghhaaGreatDoorQRL9
import Derived.Test.YtaamphdihmghhaaGreatDoorQLK
import Derived.RangeFuncRecord
namespace Go.Proofs.YtaamphdihmghhaaGreatDoor
open Go.RowKit
set_option linter.all false
/-- The tokens of what is left. -/
def restT (f : Nat) (l : List UInt8) (n : Nat) : List Tk := cutW ((pcs f l n).map tkAt)
theorem dropB_at (l : List UInt8) : dropB l = l.drop (runL l [32]) := by
  have h := List.takeWhile_append_dropWhile (p := ([32].contains ·)) (l := l)
  have h2 := congrArg (List.drop (runL l [32])) h
  unfold runL at h2
  rw [List.drop_left] at h2
  exact h2
theorem rest_step (s : ByteArray) (p f a : Nat) (T : Tk) (en : Nat) (hp : p ≤ s.size) (ha : p + runL (s.data.toList.drop p) [32] = a) (hT : T = tkSet (rdT (bs (pc (s.data.toList.drop a)))) a) (hen : en = endAt (rdT (bs (pc (s.data.toList.drop a)))) a (reachL (s.data.toList.drop a))) :
    restT (f + 1) (s.data.toList.drop p) s.size = T :: (if T.kind = 0 ∨ T.kind = 8 then [] else restT f (s.data.toList.drop en) s.size) ∧ (¬ (T.kind = 0 ∨ T.kind = 8) → p < en ∧ en ≤ s.size) := by
  have hd : dropB (s.data.toList.drop p) = s.data.toList.drop a := by rw [dropB_at, List.drop_drop, ha]
  have hal : a ≤ s.size := by have := runL_le (s.data.toList.drop p) [32]; rw [List.length_drop, ← size_len] at this; omega
  have hpa : p ≤ a := by omega
  have hlen : (s.data.toList.drop a).length = s.size - a := by rw [List.length_drop, ← size_len]
  have hna : s.size - (s.data.toList.drop a).length = a := by rw [hlen]; omega
  have hta : tkAt (a, pc (s.data.toList.drop a)) = T := by rw [hT]; rfl
  have hk : T.kind = (rdT (bs (pc (s.data.toList.drop a)))).kind := by rw [hT]; rfl
  have hpc : (s.data.toList.drop a).take (reachL (s.data.toList.drop a)) = pc (s.data.toList.drop a) := rfl
  have hrl := reachL_le (s.data.toList.drop a)
  rw [hlen] at hrl
  unfold restT
  rw [pcs_succ, hd, hna, hpc, List.map_cons, cutW, hta]
  by_cases h8 : T.kind = 8
  · rw [if_pos h8, if_pos (Or.inr h8)]
    exact ⟨rfl, fun h => absurd (Or.inr h8) h⟩
  · rw [if_neg h8]
    by_cases h0 : pc (s.data.toList.drop a) = []
    · have hk0 : T.kind = 0 := by rw [hk, h0, rdT_bs]; rfl
      rw [if_pos h0, if_pos (Or.inl hk0)]
      exact ⟨rfl, fun h => absurd (Or.inl hk0) h⟩
    · have hk0 : ¬ T.kind = 0 := fun h => h0 (end_is _ (by rw [← hk]; exact h))
      have hno : ¬ (T.kind = 0 ∨ T.kind = 8) := by rintro (h | h) <;> contradiction
      have hen' : en = a + reachL (s.data.toList.drop a) := by rw [hen]; unfold endAt; rw [if_neg (by rw [← hk]; exact h8)]
      have hne : s.data.toList.drop a ≠ [] := fun h => h0 ((take_nil_iff _).2 h)
      have hpos := reachL_pos hne
      rw [if_neg h0, if_neg hno, hen', List.drop_drop]
      exact ⟨rfl, fun _ => ⟨by omega, by omega⟩⟩
theorem rest_all (s : ByteArray) (h : isF s = true) : restT s.size (s.data.toList.drop 1) s.size = toks s := by
  unfold toks restT pcsOf; rw [h]; rfl
end Go.Proofs.YtaamphdihmghhaaGreatDoor
namespace Go.Proofs.YtaamphdihmghhaaGreatDoor
open Go.Shelf Go.RowKit
set_option linter.all false
theorem news_new2 (W : World) (t : Tk) (o : Obj) (T : TypeId) : ∀ (j : Nat) (u : Value), t.cells.toList[j]? = some u → ((W.alloc o).alloc (.cells t.cells T)).cell? ((⟨W.heap.size + 1, 0, none⟩ : Addr).add j) = some u := by
  have h := news_new (W.alloc o) t T
  rw [World.size_alloc] at h
  exact h
theorem row2 {W : World} {base : Nat} {v : Value} {ts : List Tk} (h : IsTs W base v ts) (T : Tk) : ((W.alloc (.cells T.cells 37)).alloc (.cells T.cells 37)).ownsRow base 37 11 v ts.length (flat ts) :=
  World.ownsRow.alloc (World.ownsRow.alloc h _) _
theorem app_T {w w1 w3 : World} {v v' : Value} {ts : List Tk} {T : Tk} (hB : Below w.heap.size w w1) (h : IsTs w1 w.heap.size v ts) (ho : w3.ownsRow w.heap.size 37 11 v' (ts.length + 1) (flat ts ++ T.cells.toList))
    (hg : ((w1.alloc (.cells T.cells 37)).alloc (.cells T.cells 37)).grownBy w3 v.ownBlock) : IsTs w3 w.heap.size v' (ts ++ [T]) ∧ Below w.heap.size w w3 ∧ Own w3 w1.heap.size T.cells := by
  refine ⟨?_, ?_, ?_⟩
  · unfold IsTs; rw [flat_snoc, List.length_append]; exact ho
  · have b1 := hB.alloc hB.size (.cells T.cells 37)
    have b2 := b1.alloc b1.size (.cells T.cells 37)
    exact Below.grown b2 hg b2.size (fun k hk => (h.lt k hk).1)
  · have o1 : Own (w1.alloc (.cells T.cells 37)) w1.heap.size T.cells := Own.new _ _ _
    refine (o1.of_block (Below.heap_alloc _ _ _ ?_)).of_block (hg.block _ ?_ ?_)
    · rw [World.size_alloc]; omega
    · rw [World.size_alloc, World.size_alloc]; omega
    · intro e; have := (h.lt _ e.symm).2; omega
set_option maxRecDepth 100000 in
set_option maxHeartbeats 1000000 in
theorem rlex_y (s : ByteArray) (w : World) (hs : s.size ≤ 1048576) (hF : isF s = true) (h1 : 1 ≤ s.size) (hz : (s.toList == []) = false) (h61 : ((s[0].toNat : Int) != 61) = false) :
    Calls Tryz.prog 7 #[.string s] w fun e w' => ∃ v, e = .returned v ∧ IsTs w' w.heap.size v (toks s) ∧ Below w.heap.size w w' := by
  obtain ⟨i0, hi, hz0, hz1, hz2⟩ := info_parts infoT
  have HI : Hid _ := hi
  have HZ0 : Hid _ := hz0
  have HZ1 : Hid _ := hz1
  have HZ2 : Hid _ := hz2
  clear hi hz0 hz1 hz2
  have HF : Hid (isF s = true) := hF
  clear hF
  have h1' : (1 : Int) ≤ s.size := by omega
  have h0' : (0 : Int) < s.size := by omega
  go_enter Tryz.func7, Tryz.ntmps7
  go_wp2
  go_loopw [3, 4] (fun v x w' => ∃ (p k : Nat) (ts : List Tk), x = .int .i64 p ∧ p ≤ s.size ∧ ts.length < p ∧ Hid (s.size - p < k) ∧ Hid (ts ++ restT k (s.data.toList.drop p) s.size = toks s) ∧ IsTs w' w.heap.size v ts ∧ Below w.heap.size w w') (fun _ x _ => s.size - (intOf x).toNat)
  case atStart => exact ⟨1, s.size, [], rfl, h1, by simp, (by omega : s.size - 1 < s.size), (rest_all s HF.out), ⟨rfl, .inl ⟨rfl, rfl⟩⟩, Below.refl _ _⟩
  case round =>
    obtain ⟨p, k, ts, rfl, hp, hts, hk, hN, hrow, hB⟩ := hrel
    obtain ⟨k', rfl⟩ : ∃ k', k = k' + 1 := ⟨k - 1, by have := hk.out; omega⟩
    obtain ⟨a, ha⟩ : ∃ a, p + runL (s.data.toList.drop p) [32] = a := ⟨_, rfl⟩
    obtain ⟨T, hT⟩ : ∃ T, T = tkSet (rdT (bs (pc (s.data.toList.drop a)))) a := ⟨_, rfl⟩
    obtain ⟨en, hen⟩ : ∃ en, en = endAt (rdT (bs (pc (s.data.toList.drop a)))) a (reachL (s.data.toList.drop a)) := ⟨_, rfl⟩
    have hnx := fun w => rnext s p a w (by omega) hp ha T en hT hen
    have hst := rest_step s p k' a T en hp ha hT hen
    have hN' := hN.out
    rw [hst.1] at hN'
    have hst2 := hst.2
    clear hT hen ha hN hst
    by_cases hk0 : T.kind = 0
    · rw [if_pos (Or.inl hk0)] at hN'
      have HN : Hid (ts ++ [T] = toks s) := hN'
      have b0 : (T.kind == 0) = true := by simpa using hk0
      clear hN' hst2 hk0 HF hk hz
      go_wp2_with (first | (go_at_call 10; refine (hnx _).mono ?_; clear hnx; rintro e w1 ⟨rfl, hb⟩; have hB1 : Below w.heap.size w w1 := bup hB hb; have hr1 := hrow.keep hb; clear hb) | (at_builtin; refine wpList_append_own _ rfl _ _ 23 rfl w.heap.size 37 i0 _ 11 96 Tryz.underlying23 HI.out HZ0.out HZ1.out HZ2.out rfl (by decide) _ ts.length (flat ts) rfl (row2 hr1 T) ⟨w1.heap.size + 1, 0, none⟩ 1 1 T.cells.toList rfl rfl (news_new2 w1 T _ _) (one_cells T) (by unfold maxLen; omega) (by omega) (by have := hB1.size; simp; omega) ?_; intro v' w3 hown' hgrow _; have hW := app_T hB1 hr1 hown' hgrow; clear hown' hgrow; have c3 : w3.cell? ⟨w1.heap.size, 0, none⟩ = some (.int .i64 T.kind) := (hW.2.2.cell 0).trans rfl; have f3 := hW.2.2.fro; have l3 := hW.2.2.lt))
      go_ret
      exact ⟨v', rfl, by rw [← HN.out]; exact hW.1, hW.2.1⟩
    · have b0 : (T.kind == 0) = false := by simpa using hk0
      by_cases hk8 : T.kind = 8
      · rw [if_pos (Or.inr hk8)] at hN'
        have HN : Hid (ts ++ [T] = toks s) := hN'
        have b8 : (T.kind == 8) = true := by simpa using hk8
        clear hN' hst2 hk0 hk8 HF hk hz
        go_wp2_with (first | (go_at_call 10; refine (hnx _).mono ?_; clear hnx; rintro e w1 ⟨rfl, hb⟩; have hB1 : Below w.heap.size w w1 := bup hB hb; have hr1 := hrow.keep hb; clear hb) | (at_builtin; refine wpList_append_own _ rfl _ _ 23 rfl w.heap.size 37 i0 _ 11 96 Tryz.underlying23 HI.out HZ0.out HZ1.out HZ2.out rfl (by decide) _ ts.length (flat ts) rfl (row2 hr1 T) ⟨w1.heap.size + 1, 0, none⟩ 1 1 T.cells.toList rfl rfl (news_new2 w1 T _ _) (one_cells T) (by unfold maxLen; omega) (by omega) (by have := hB1.size; simp; omega) ?_; intro v' w3 hown' hgrow _; have hW := app_T hB1 hr1 hown' hgrow; clear hown' hgrow; have c3 : w3.cell? ⟨w1.heap.size, 0, none⟩ = some (.int .i64 T.kind) := (hW.2.2.cell 0).trans rfl; have f3 := hW.2.2.fro; have l3 := hW.2.2.lt))
        go_ret
        exact ⟨v', rfl, by rw [← HN.out]; exact hW.1, hW.2.1⟩
      · have hno : ¬ (T.kind = 0 ∨ T.kind = 8) := by rintro (h | h) <;> contradiction
        rw [if_neg hno] at hN'
        have hpe := hst2 hno
        have hk2 : Hid (s.size - en < k') := by show _ < _; have := hk.out; omega
        have HN : Hid ((ts ++ [T]) ++ restT k' (s.data.toList.drop en) s.size = toks s) := by show _ = _; rw [List.append_assoc]; exact hN'
        have b8 : (T.kind == 8) = false := by simpa using hk8
        clear hN' hst2 hk0 hk8 HF hk hz hno
        go_wp2_with (first | (go_at_call 10; refine (hnx _).mono ?_; clear hnx; rintro e w1 ⟨rfl, hb⟩; have hB1 : Below w.heap.size w w1 := bup hB hb; have hr1 := hrow.keep hb; clear hb) | (at_builtin; refine wpList_append_own _ rfl _ _ 23 rfl w.heap.size 37 i0 _ 11 96 Tryz.underlying23 HI.out HZ0.out HZ1.out HZ2.out rfl (by decide) _ ts.length (flat ts) rfl (row2 hr1 T) ⟨w1.heap.size + 1, 0, none⟩ 1 1 T.cells.toList rfl rfl (news_new2 w1 T _ _) (one_cells T) (by unfold maxLen; omega) (by omega) (by have := hB1.size; simp; omega) ?_; intro v' w3 hown' hgrow _; have hW := app_T hB1 hr1 hown' hgrow; clear hown' hgrow; have c3 : w3.cell? ⟨w1.heap.size, 0, none⟩ = some (.int .i64 T.kind) := (hW.2.2.cell 0).trans rfl; have f3 := hW.2.2.fro; have l3 := hW.2.2.lt))
        go_roundw
        case rel => exact ⟨en, k', ts ++ [T], rfl, hpe.2, by rw [List.length_append, List.length_singleton]; omega, hk2, HN, hW.1, hW.2.1⟩
        case measure => simp [intOf]; omega
theorem IsTs.one (W : World) (base : Nat) (T : Tk) (h : base ≤ W.heap.size) : IsTs (W.alloc (.cells T.cells 37)) base (.slice (some ⟨W.heap.size, 0, none⟩) 1 1) [T] := by
  refine ⟨rfl, .inr ⟨W.heap.size, 1, T.cells, rfl, h, World.alloc_heap_new _ _, Nat.le_refl _, by unfold maxLen; omega, rfl, ?_⟩⟩
  simp [flat, Tk.cells]
theorem rlex_e (s : ByteArray) (w : World) (hz : (s.toList == []) = true) :
    Calls Tryz.prog 7 #[.string s] w fun e w' => ∃ v, e = .returned v ∧ IsTs w' w.heap.size v [tk0 8] ∧ Below w.heap.size w w' := by
  go_enter Tryz.func7, Tryz.ntmps7
  go_wp2
  go_ret
  exact ⟨_, rfl, IsTs.one w w.heap.size (tk0 8) (Nat.le_refl _), bal _ _⟩
theorem rlex_n (s : ByteArray) (w : World) (h1 : 0 < s.size) (hz : (s.toList == []) = false) (h61 : ((s[0].toNat : Int) != 61) = true) :
    Calls Tryz.prog 7 #[.string s] w fun e w' => ∃ v, e = .returned v ∧ IsTs w' w.heap.size v [tk0 8] ∧ Below w.heap.size w w' := by
  have h0' : (0 : Int) < s.size := by omega
  go_enter Tryz.func7, Tryz.ntmps7
  go_wp2
  go_ret
  exact ⟨_, rfl, IsTs.one w w.heap.size (tk0 8) (Nat.le_refl _), bal _ _⟩
theorem rlex (s : ByteArray) (w : World) (hs : s.size ≤ 1048576) :
    Calls Tryz.prog 7 #[.string s] w fun e w' => ∃ v, e = .returned v ∧ IsTs w' w.heap.size v (toks s) ∧ Below w.heap.size w w' := by
  have hl : s.toList = s.data.toList := ByteArray.toList_eq s
  by_cases h0 : 0 < s.size
  · have hll : 0 < s.data.toList.length := by rw [← size_len]; exact h0
    have hc : s.data.toList = s[0] :: s.data.toList.drop 1 := by
      have h := List.drop_eq_getElem_cons hll
      rw [byte_at s 0 h0 hll] at h
      exact h
    have hz : (s.toList == []) = false := by rw [hl, hc]; rfl
    have hi : isF s = ((61 : UInt8) == s[0]) := by unfold isF; rw [hc]; simp [List.isPrefixOf]
    by_cases h61 : s[0].toNat = 61
    · have e : s[0] = 61 := UInt8.toNat_inj.1 h61
      refine rlex_y s w hs (by rw [hi, e]; rfl) h0 hz (by rw [h61]; rfl)
    · have hF : isF s = false := by
        rw [hi]
        cases h : ((61 : UInt8) == s[0])
        · rfl
        · have h' : (61 : UInt8) = s[0] := by simpa using h
          exact absurd (by rw [← h']; rfl) h61
      have et : toks s = [tk0 8] := by unfold toks; rw [hF]; rfl
      rw [et]
      exact rlex_n s w h0 hz (by simp; omega)
  · have hn : s.data.toList = [] := List.length_eq_zero_iff.1 (by rw [← size_len]; omega)
    have hF : isF s = false := by unfold isF; rw [hn]; rfl
    have et : toks s = [tk0 8] := by unfold toks; rw [hF]; rfl
    rw [et]
    exact rlex_e s w (by rw [hl, hn]; rfl)
end Go.Proofs.YtaamphdihmghhaaGreatDoor
