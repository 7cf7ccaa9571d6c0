/- The contract of the laws' own collector: the tokens that Lex tells, as a list, at most so many. New memory alone is made. The conditions: a text of at most 1048576 bytes; what package value lays (the names), and that a variable of the library holds a number. -/
import Derived.Test.YtaamphdihmghhaaGreatDoorQLI2
import Derived.Maps.OwnIn
import Derived.Maps.AppendAt
namespace Go.Proofs.YtaamphdihmghhaaGreatDoor
open Go.Shelf Go.RowKit
set_option linter.all false
attribute [local go_sem] Oper.semAt_some
def flat (ts : List Tk) : List Value := ts.flatMap (fun t => t.cells.toList)
theorem cells_len (t : Tk) : t.cells.toList.length = 11 := rfl
theorem flat_len (ts : List Tk) : (flat ts).length = ts.length * 11 := by
  induction ts with
  | nil => rfl
  | cons t r ih => unfold flat at *; rw [List.flatMap_cons, List.length_append, ih, cells_len, List.length_cons]; omega
theorem flat_snoc (ts : List Tk) (t : Tk) : flat (ts ++ [t]) = flat ts ++ t.cells.toList := by unfold flat; simp
theorem flat_at : ∀ (ts : List Tk) (i j : Nat) (t : Tk), ts[i]? = some t → j < 11 → (flat ts)[i * 11 + j]? = t.cells[j]?
  | [], i, j, t, h, _ => by simp at h
  | u :: r, 0, j, t, h, hj => by
    simp at h; subst h
    have e : flat (u :: r) = u.cells.toList ++ flat r := rfl
    rw [e, Nat.zero_mul, Nat.zero_add, List.getElem?_append_left (by rw [cells_len]; exact hj)]
    simp
  | u :: r, i + 1, j, t, h, hj => by
    have ih := flat_at r i j t (by simpa using h) hj
    have e : flat (u :: r) = u.cells.toList ++ flat r := rfl
    rw [e, List.getElem?_append_right (by rw [cells_len]; omega), cells_len, ← ih]
    congr 1; omega
/-- The value v is a list of just these tokens, in a block of its own from base on. -/
def IsTs (w : World) (base : Nat) (v : Value) (ts : List Tk) : Prop := w.ownsRow base 37 11 v ts.length (flat ts)
theorem IsTs.of_block {w w' : World} {base : Nat} {v : Value} {ts : List Tk} (h : IsTs w base v ts) (hb : ∀ g, v.ownBlock = some g → w'.heap[g]? = w.heap[g]?) : IsTs w' base v ts := by
  obtain ⟨h1, h2⟩ := h
  refine ⟨h1, ?_⟩
  rcases h2 with h2 | ⟨g, cap, cur, e, r1, r2, r3⟩
  · exact .inl h2
  · exact .inr ⟨g, cap, cur, e, r1, (hb g (by rw [e]; rfl)).trans r2, r3⟩
theorem IsTs.lt {w : World} {base : Nat} {v : Value} {ts : List Tk} (h : IsTs w base v ts) : ∀ g, v.ownBlock = some g → base ≤ g ∧ g < w.heap.size := World.ownsRow.lt h
theorem IsTs.keep {w w' : World} {base : Nat} {v : Value} {ts : List Tk} (h : IsTs w base v ts) (hb : Below w.heap.size w w') : IsTs w' base v ts :=
  h.of_block fun g hg => hb.block g (h.lt g hg).2
theorem IsTs.form {w : World} {base : Nat} {v : Value} {ts : List Tk} (h : IsTs w base v ts) (hn : 0 < ts.length) : ∃ g cap, v = .slice (some ⟨g, 0, none⟩) ts.length cap ∧ base ≤ g ∧ g < w.heap.size ∧
    (∀ i t, ts[i]? = some t → ∀ j, j < 11 → w.cell? ⟨g, i * 11 + j, none⟩ = t.cells[j]?) ∧ (∀ o, w.frozen? ⟨g, o, none⟩ = false) ∧ ts.length ≤ cap := by
  have hh := h
  obtain ⟨h1, h2⟩ := h
  rcases h2 with ⟨_, e⟩ | ⟨g, cap, cur, rfl, r1, r2, r3⟩
  · omega
  · refine ⟨g, cap, rfl, r1, (Array.getElem?_eq_some_iff.1 r2).1, fun i t hi j hj => ?_, fun o => World.ownsRow.frozenAt hh o, r3.1⟩
    have hil := (List.getElem?_eq_some_iff.1 hi).1
    rw [World.ownsRow.cellAt hh (i * 11 + j) (by omega), flat_at ts i j t hi hj]
/-- How many are told. -/
def nAll (most : Int) (n : Nat) : Nat := if 0 < most ∧ most ≤ n then most.toNat else n
theorem pcs_le : ∀ (f : Nat) (rest : List UInt8) (n : Nat), (pcs f rest n).length ≤ rest.length + 1
  | 0, rest, n => by simp [pcs]
  | f + 1, rest, n => by
    rw [pcs_succ, List.length_cons]
    have h1 := dropB_le rest
    split
    · simp
    · rename_i h
      have h2 := pcs_le f ((dropB rest).drop (reachL (dropB rest))) n
      have h3 : dropB rest ≠ [] := fun e => h ((take_nil_iff _).2 e)
      have h4 := reachL_pos h3
      have h5 := len_pos h3
      rw [List.length_drop] at h2
      omega
theorem cutW_len : ∀ l : List Tk, (cutW l).length ≤ l.length
  | [] => by simp [cutW]
  | t :: r => by
    have := cutW_len r
    simp only [cutW, List.length_cons]
    split <;> simp <;> omega
theorem toks_le (s : ByteArray) : (toks s).length ≤ s.size + 1 := by
  unfold toks
  split
  · have h1 := cutW_len ((pcsOf s).map tkAt)
    have h2 := pcs_le s.size (s.data.toList.drop 1) s.size
    rw [List.length_map] at h1
    rw [List.length_drop, ← size_len] at h2
    have : (pcsOf s).length = (pcs s.size (s.data.toList.drop 1) s.size).length := rfl
    omega
  · simp
theorem Own.of_block {w w' : World} {b : Nat} {A : Array Value} (h : Own w b A) (e : w'.heap[b]? = w.heap[b]?) : Own w' b A :=
  ⟨by have h1 := h.lt; rw [Array.getElem?_eq_getElem h1] at e; exact (Array.getElem?_eq_some_iff.1 e).1, fun o => (World.cell?_of_block e).trans (h.cell o), fun o => (World.frozen?_of_block e).trans (h.fro o)⟩
theorem infoT : (Tryz.prog.info? 37).map (fun i => (i.zero, i.size, i.bytes)) = some (some (.agg #[.int .i64 0, .int .i64 0, .int .i64 0, .string ⟨#[]⟩, .int .i64 0, .int .i64 0, .int .i64 0, .int .i64 0, .int .i64 0, .int .i64 0, .int .i64 0]), 11, 96) := by kernel_rfl
theorem func_nil0 (w : World) (lb : Array Value) : (Op.equal 29 (.func (.func 11) #[] lb) .nilFunc).run Tryz.prog w = .ok false w := by
  show (Op.equalIn (9999 + 1) 29 (.func (.func 11) #[] lb) .nilFunc).run Tryz.prog w = _
  unfold Op.equalIn
  simp only [Sem.run_bind, run_underlying Tryz.underlying29, Result.andThen, Sem.run_pure]
theorem func_nil (w : World) (lb : Array Value) : (binOp .eql 29 (.func (.func 11) #[] lb) .nilFunc).run Tryz.prog w = .ok (.bool false) w := by
  simp [binOp, go_sem, Tryz.underlying29, func_nil0]
/-- What the collector's rounds may turn: the box of what it answers, of what it has, and the list's own block. -/
def FtA (b : Nat) (v : Value) : Nat → Prop := fun x => x = b + 1 + 1 ∨ x = b + 1 + 1 + 1 ∨ v.ownBlock = some x
theorem news_new (W : World) (t : Tk) (T : TypeId) : ∀ (j : Nat) (u : Value), t.cells.toList[j]? = some u → (W.alloc (.cells t.cells T)).cell? ((⟨W.heap.size, 0, none⟩ : Addr).add j) = some u := fun j u h => by
  have h1 := (Own.new W t.cells T).cell j
  have e : ((⟨W.heap.size, 0, none⟩ : Addr).add j) = ⟨W.heap.size, j, none⟩ := by simp [Addr.add]; omega
  rw [e, h1]
  simpa using h
theorem one_cells (t : Tk) : ∀ u ∈ t.cells.toList, u.oneCell' = true := by
  intro u hu
  simp [Tk.cells] at hu
  rcases hu with h | h | h | h | h | h | h | h | h | h | h <;> (subst h; rfl)
theorem IsTs.mono {w : World} {base base' : Nat} {v : Value} {ts : List Tk} (h : IsTs w base v ts) (hb : base' ≤ base) : IsTs w base' v ts := by
  obtain ⟨h1, h2⟩ := h
  refine ⟨h1, ?_⟩
  rcases h2 with h2 | ⟨g, cap, cur, e, r1, r2⟩
  · exact .inl h2
  · exact .inr ⟨g, cap, cur, e, Nat.le_trans hb r1, r2⟩
theorem IsTs.slice {w : World} {base : Nat} {v : Value} {ts : List Tk} (h : IsTs w base v ts) : ∃ p n c, v = .slice p n c ∧ n = ts.length := by
  obtain ⟨h1, h2⟩ := h
  rcases h2 with ⟨rfl, e⟩ | ⟨g, cap, cur, rfl, _⟩
  · exact ⟨_, _, _, rfl, e.symm⟩
  · exact ⟨_, _, _, rfl, rfl⟩
theorem set_other {W : World} {a : Addr} {v : Value} {k : Nat} (h : k ≠ a.block) : (W.setCell a v).heap[k]? = W.heap[k]? := Below.heap_setCell W a v k h
theorem set_size (W : World) (a : Addr) (v : Value) : (W.setCell a v).heap.size = W.heap.size := by simp [World.setCell]
theorem Own.put {W : World} {b : Nat} {v u : Value} (h : Own W b #[v]) : Own (W.setCell ⟨b, 0, none⟩ u) b #[u] :=
  ⟨by rw [set_size]; exact h.lt, fun o => by
    by_cases ho : o = 0
    · subst ho; exact World.cell?_setCell_same' _ _ _ (by rw [h.cell]; rfl)
    · have h1 := h.cell o
      have e : (#[v] : Array Value)[o]? = none := by simp; omega
      have e2 : (#[u] : Array Value)[o]? = none := by simp; omega
      rw [e2, ← e, ← h1]
      exact World.cell?_setCell_other _ _ _ _ (by intro hh; exact ho (by simpa using (congrArg Addr.off hh).symm)), fun o => by rw [World.frozen?_setCell]; exact h.fro o⟩
theorem turnA {b : Nat} {v v' : Value} {W2 w3 X : World} {o : Obj} (hg : (W2.alloc o).grownBy w3 v.ownBlock) (hlt : b + 5 ≤ W2.heap.size) (hblk : v'.ownBlock = v.ownBlock ∨ v'.ownBlock = some (W2.alloc o).heap.size) (hv' : ∀ g, v'.ownBlock = some g → g < w3.heap.size)
    (x1 : X.os = w3.os) (x2 : X.tape = w3.tape) (x3 : X.output = w3.output) (x4 : X.heap.size = w3.heap.size) (x5 : ∀ x, x ≠ b + 1 + 1 → x ≠ b + 1 + 1 + 1 → X.heap[x]? = w3.heap[x]?) : Turn (FtA b v) (FtA b v') W2 X := by
  have hz := hg.size
  rw [World.size_alloc] at hz
  refine ⟨x1.trans hg.os, x2.trans hg.tape, x3.trans hg.output, by omega, fun k hk hn => ?_, fun k hk => ?_⟩
  · rw [x5 k (fun e => hn (.inl e)) (fun e => hn (.inr (.inl e)))]
    exact (hg.block k (by rw [World.size_alloc]; omega) (fun e => hn (.inr (.inr e.symm)))).trans (Below.heap_alloc W2 _ k hk)
  · rw [x4]
    rcases hk with h | h | h
    · exact ⟨.inl (.inl h), by omega⟩
    · exact ⟨.inl (.inr (.inl h)), by omega⟩
    · refine ⟨?_, hv' k h⟩
      rcases hblk with e | e
      · exact .inl (.inr (.inr (by rw [← e]; exact h)))
      · right
        rw [e] at h
        have := Option.some.inj h
        rw [World.size_alloc] at this
        omega
set_option maxRecDepth 100000 in
set_option maxHeartbeats 4000000 in
theorem all_any (s : ByteArray) (most : Int) (w : World) (hs : s.size ≤ 1048576) (hm : most ≠ 0) (hN : Vv.Nam w) (hM : Mx w) :
    Calls Tryz.prog 6 #[.string s, .int .i64 most] w fun e w' => ∃ v, e = .returned v ∧ IsTs w' w.heap.size v ((toks s).take (nAll most (toks s).length)) ∧ Below w.heap.size w w' := by
  refine (callsIn_wide (n := 9)).1 ?_
  refine callsIn_of_wp_marks Tryz.func6 rfl trivial ?_ rfl
  simp only [Tryz.ntmps6, List.size_toArray, List.length_cons, List.length_nil, Nat.reduceAdd, Nat.reduceSub, Array.replicate_succ, Array.replicate_zero, List.push_toArray, List.append_toArray, List.nil_append, List.cons_append]
  have hlm := fun w => lex_mk s w
  have hnil := func_nil
  have HS : Hid (s.size ≤ 1048576) := hs
  have hs' : s.size < 4294967281 := by omega
  clear hs
  gi_wp2_with (refine ⟨trivial, ?_⟩; gi_at_call 9; refine (callsIn_wide.2 (hlm _)).mono ?_; rintro e w1 ⟨rfl, rfl⟩)
  clear hlm hnil
  obtain ⟨b, hb⟩ : ∃ b, w.heap.size = b := ⟨_, rfl⟩
  obtain ⟨V, hV⟩ : ∃ V, (((((w.alloc (.cells #[.string s] 9)).alloc (.cells #[.int .i64 most] 3)).alloc (.cells #[.slice none 0 0] 23)).alloc (.cells #[.slice none 0 0] 23)).alloc (.cells #[.string s] 9)) = V := ⟨_, rfl⟩
  have v0 : Own V b #[.string s] := by rw [← hV, ← hb]; exact ((((Own.new _ _ _).past _).past _).past _).past _
  have v1 : Own V (b + 1) #[.int .i64 most] := by rw [← hV, ← hb]; exact ((((Own.at (by simp)).past _).past _).past _)
  have v2 : Own V (b + 1 + 1) #[.slice none 0 0] := by rw [← hV, ← hb]; exact (((Own.at (by simp)).past _).past _)
  have v3 : Own V (b + 1 + 1 + 1) #[.slice none 0 0] := by rw [← hV, ← hb]; exact ((Own.at (by simp)).past _)
  have v4 : Own V (b + 1 + 1 + 1 + 1) #[.string s] := by rw [← hV, ← hb]; exact Own.at (by simp)
  have hVs : V.heap.size = b + 5 := by rw [← hV, ← hb]; simp
  have hBV : Below b w V := by
    rw [← hV, ← hb]
    exact (((((Below.refl _ w).alloc (Nat.le_refl _) _).alloc (by simp) _).alloc (by simp; omega) _).alloc (by simp; omega) _).alloc (by simp; omega) _
  rw [hV, hb]
  have hNV : Vv.Nam V := hN.stays (by rw [hb]; exact hBV)
  have hMV : Mx V := hM.stays (by rw [hb]; exact hBV)
  have hgN := Nam_lt hN
  have hgM := Mx_lt hM
  rw [hb] at hgN hgM
  clear hV hN hM
  have hgv := lex_gives s (b + 1 + 1 + 1 + 1) V (v4.cell 0) hs' hNV hMV
  have hlen := toks_le s
  obtain ⟨i0, hi, hz0, hz1, hz2⟩ := info_parts infoT
  refine range_out (gf := 11) (lb := #[.pointer (some ⟨b + 1 + 1 + 1 + 1, 0, none⟩)]) rfl (enters_of Tryz.func11 (by kernel_rfl) rfl)
    hgv (fun _ => rfl) (FtA b (.slice none 0 0)) ?own ?F0
    (fun k Ft A => ∃ v, Own A (b + 1 + 1 + 1) #[v] ∧ Own A b #[.string s] ∧ Own A (b + 1) #[.int .i64 most] ∧ (∃ r, Own A (b + 1 + 1) #[r]) ∧ IsTs A (b + 5) v ((toks s).take k) ∧ Ft = FtA b v ∧ Below b w A ∧ Hid (most < 0 ∨ (k : Int) < most))
    (fun c k Ft A => c = .ret ∧ ∃ v, Own A (b + 1 + 1) #[v] ∧ IsTs A (b + 5) v ((toks s).take k) ∧ Ft = FtA b v ∧ Below b w A ∧ k = nAll most (toks s).length)
    ?hI ?hIx ?h0 ?round ?done ?stop
  case own =>
    rintro k (rfl | rfl | rfl)
    · exact ⟨rfl, by rintro (h | h | h); omega; omega; simp [Value.ownBlock] at h, by omega⟩
    · exact ⟨rfl, by rintro (h | h | h); omega; omega; simp [Value.ownBlock] at h, by omega⟩
    · exact ⟨rfl, by rintro (h | h | h); omega; omega; simp [Value.ownBlock] at h, by omega⟩
  case F0 => rintro k (h | h | h); omega; omega; simp [Value.ownBlock] at h
  case hI =>
    rintro k Ft A A' ⟨v, o3, o0, o1, ⟨r, o2⟩, hT, rfl, hB, hh⟩ hk
    have hsm : ∀ x, x < b + 5 → x < A.heap.size → A'.heap[x]? = A.heap[x]? := fun x h1 h2 => hk.block x h2 (.inl (by omega))
    exact ⟨v, o3.of_block (hsm _ (by omega) o3.lt), o0.of_block (hsm _ (by omega) o0.lt), o1.of_block (hsm _ (by omega) o1.lt), ⟨r, o2.of_block (hsm _ (by omega) o2.lt)⟩,
      hT.of_block (fun g hg => hk.block g (hT.lt g hg).2 (.inr (.inr (.inr hg)))), rfl, hB.trans ⟨hk.os, hk.tape, hk.output, hk.size, fun x hx => hsm x (by omega) (by have := o0.lt; omega)⟩, hh⟩
  case hIx =>
    rintro c k Ft A A' ⟨rfl, v, o2, hT, rfl, hB, hh⟩ hk
    have hsm : ∀ x, x < b + 5 → x < A.heap.size → A'.heap[x]? = A.heap[x]? := fun x h1 h2 => hk.block x h2 (.inl (by omega))
    exact ⟨rfl, v, o2.of_block (hsm _ (by omega) o2.lt), hT.of_block (fun g hg => hk.block g (hT.lt g hg).2 (.inr (.inr (.inr hg)))), rfl, hB.trans ⟨hk.os, hk.tape, hk.output, hk.size, fun x hx => hsm x (by omega) (by have := o2.lt; omega)⟩, hh⟩
  case h0 =>
    refine ⟨_, v3, v0, v1, ⟨_, v2⟩, World.ownsRow_nil _ _ _ _, rfl, hBV, ?_⟩
    show most < 0 ∨ ((0 : Nat) : Int) < most
    omega
  case done =>
    rintro D Ft A hD hDA ⟨v, o3, o0, o1, ⟨r, o2⟩, hT, rfl, hB, hh⟩ hFD hlt hfr hK
    obtain ⟨vp, vn, vc, rfl, hvn⟩ := hT.slice
    have c3 := o3.cell
    have f2 := o2.fro
    have c2 := o2.cell
    have l2 := o2.lt
    have oR : ∀ u, Own ((A.setCell ⟨b + 1 + 1, 0, none⟩ u).putObj D (.deferred none)) (b + 1 + 1) #[u] := fun u => (Own.put o2).of_block (World.putObj_heap_other (by omega))
    have HO : Hid _ := oR
    have hKp : ∀ u, (A.setCell ⟨b + 1 + 1, 0, none⟩ u).heap[D]? = some (.deferred (some [])) := fun u => (set_other (by show D ≠ b + 1 + 1; omega)).trans hK
    have HK : Hid _ := hKp
    obtain rfl : vn = (toks s).length := by rw [hvn, List.length_take]; omega
    clear hvn
    have HT : Hid (IsTs A (b + 5) (.slice vp (toks s).length vc) ((toks s).take (toks s).length)) := hT
    clear oR hKp hT
    gi_wp2
    refine ⟨by simp, .inl ⟨_, _, rfl, run_takeDeferred (HK.out _), ?_⟩⟩
    have r2 := HO.out (.slice vp (toks s).length vc)
    have rc := r2.cell
    have rf := r2.fro
    have rl := r2.lt
    refine ⟨.slice vp (toks s).length vc, by simp [results, Tryz.results6, go_sem, rc, rf, rl], _, rfl, ?_, ?_⟩
    · have e : nAll most (toks s).length = (toks s).length := by
        unfold nAll
        have := hh.out
        split
        · omega
        · rfl
      rw [e, hb]
      refine IsTs.mono (IsTs.of_block HT.out (fun g hg => ?_)) (by omega)
      have h1 := (IsTs.lt HT.out g hg).1
      have h2 : g ≠ D := fun e => hFD (.inr (.inr (by rw [← e]; exact hg)))
      rw [World.putObj_heap_other h2]
      exact set_other (by show g ≠ b + 1 + 1; omega)
    · rw [hb]
      exact (hB.setCell (p := ⟨b + 1 + 1, 0, none⟩) (by show b ≤ b + 1 + 1; omega) _).trans ⟨rfl, rfl, rfl, by rw [World.putObj_size]; exact Nat.le_refl _, fun y hy => World.putObj_heap_other (by omega)⟩
  case stop =>
    rintro D c k Ft A hD hDA hk ⟨rfl, v, o2, hT, rfl, hB, hh⟩ hFD hlt hfr hK
    obtain ⟨vp, vn, vc, rfl, hvn⟩ := hT.slice
    gi_wp2
    refine ⟨by simp, .inl ⟨_, _, rfl, run_takeDeferred hK, ?_⟩⟩
    have r2 : Own (A.putObj D (.deferred none)) (b + 1 + 1) #[.slice vp vn vc] := o2.of_block (World.putObj_heap_other (by omega))
    have rc := r2.cell
    have rf := r2.fro
    have rl := r2.lt
    refine ⟨.slice vp vn vc, by simp [results, Tryz.results6, go_sem, rc, rf, rl], _, rfl, ?_, ?_⟩
    · rw [← hh, hb]
      refine (hT.of_block (fun g hg => ?_)).mono (by omega)
      have h2 : g ≠ D := fun e => hFD (.inr (.inr (by rw [← e]; exact hg)))
      exact World.putObj_heap_other h2
    · rw [hb]
      exact hB.trans ⟨rfl, rfl, rfl, by rw [World.putObj_size]; exact Nat.le_refl _, fun y hy => World.putObj_heap_other (by omega)⟩
  case round =>
    rintro L k t Ft A hx ⟨v, o3, o0, o1, ⟨r, o2⟩, hT, rfl, hB, hh⟩ hL hLA hFL hlt hfr
    unfold encT
    dsimp only
    gi_wp2
    obtain ⟨vp, vn, vc, rfl, hvn⟩ := hT.slice
    refine ⟨bal _ _, fun W2 hset hr => ?_⟩
    have hLb : b + 5 ≤ L := by omega
    have hTL : A.heap.size ≠ L := by omega
    have oT : Own W2 A.heap.size t.cells := (Own.new A t.cells 37).of_block (hset.block _ hTL)
    have HZ : Hid (W2.heap.size = A.heap.size + 1) := by show _ = _; rw [hset.size]; simp
    have hAW : ∀ x, x < A.heap.size → x ≠ L → W2.heap[x]? = A.heap[x]? := fun x h1 h2 => (hset.block x h2).trans (Below.heap_alloc A _ x h1)
    replace o3 := o3.of_block (hAW _ o3.lt (by omega))
    replace o0 := o0.of_block (hAW _ o0.lt (by omega))
    replace o1 := o1.of_block (hAW _ o1.lt (by omega))
    replace o2 := o2.of_block (hAW _ o2.lt (by omega))
    have hTW : IsTs W2 (b + 5) (.slice vp vn vc) ((toks s).take k) := hT.of_block (fun g hg => hAW g (hT.lt g hg).2 (fun e => hFL (.inr (.inr (by rw [← e]; exact hg)))))
    have hBW : Below b w W2 := hB.trans ⟨hset.os, hset.tape, hset.output, by have := HZ.out; omega, fun x hx => hAW x (by omega) (by omega)⟩
    have hkl : k < (toks s).length := (List.getElem?_eq_some_iff.1 hx).1
    have htl : ((toks s).take k).length = k := by rw [List.length_take]; omega
    have hsn : (toks s).take (k + 1) = (toks s).take k ++ [t] := by rw [List.take_add_one, hx]; rfl
    clear hT hset hr hB
    have c0 := o0.cell
    have c1 := o1.cell
    have c3 := o3.cell
    have cT := oT.cell
    have l0 := o0.lt
    have l1 := o1.lt
    have l3 := o3.lt
    have hrow : W2.ownsRow (b + 5) 37 11 (.slice vp vn vc) k (flat ((toks s).take k)) := by have h := hTW; unfold IsTs at h; rw [htl] at h; exact h
    rw [htl] at hvn
    subst hvn
    unfold Tk.cells at cT
    have l2 := o2.lt
    have hne : ∀ x, x < b + 5 → (Value.slice vp vn vc).ownBlock ≠ some x := fun x hx e => by have := (hTW.lt x e).1; omega
    have hcmp : ¬ ((s.size : Int) + 1 < (vn : Int) + 1) := by omega
    by_cases hq : (vn : Int) + 1 = most
    · gi_wp2_with (gi_at_builtin; refine wpListIn_append_own_at _ rfl _ _ 23 rfl (b + 5) 37 i0 _ 11 96 Tryz.underlying23 hi hz0 hz1 hz2 rfl (by decide) _ vn (flat ((toks s).take vn)) rfl (hrow.alloc _) ⟨W2.heap.size, 0, none⟩ 1 1 t.cells.toList rfl rfl (news_new W2 t _) (one_cells t) (by have := HS.out; unfold maxLen; omega) (by have := HS.out; omega) (by have := HZ.out; simp; omega) ?_; intro v' w3 hown' hgrow _ hblk; obtain ⟨g', cap', rfl⟩ := ownsRow_succ hown'; have hg3 : ∀ x, x < W2.heap.size → (Value.slice vp vn vc).ownBlock ≠ some x → w3.heap[x]? = W2.heap[x]? := (fun x h1 h2 => (hgrow.block x (by simp; omega) (fun e => h2 e.symm)).trans (Below.heap_alloc W2 _ x h1)); have p3 := o3.of_block (hg3 _ l3 (hne _ (by omega))); have p0 := o0.of_block (hg3 _ l0 (hne _ (by omega))); have p1 := o1.of_block (hg3 _ l1 (hne _ (by omega))); have p2 := o2.of_block (hg3 _ l2 (hne _ (by omega))); have q0 := p0.cell; have q1 := p1.cell; have q2 := p2.cell; have q3 := p3.cell; have g2 := p2.fro; have g3 := p3.fro; have m0 := p0.lt; have m1 := p1.lt; have m2 := p2.lt; have m3 := p3.lt; have HG : Hid _ := hg3; have HGR : Hid _ := hgrow; clear hg3 hgrow)
      have hz := HZ.out
      have hTn : IsTs w3 (b + 5) (.slice (some ⟨g', 0, none⟩) (vn + 1) cap') ((toks s).take (vn + 1)) := by
        unfold IsTs
        have hl : ((toks s).take (vn + 1)).length = vn + 1 := by rw [List.length_take]; omega
        rw [hl, hsn, flat_snoc]
        exact hown'
      have hB3 : Below b w w3 := hBW.trans ⟨HGR.out.os, HGR.out.tape, HGR.out.output, by have := HGR.out.size; rw [World.size_alloc] at this; omega, fun y hy => HG.out y (by omega) (hne y (by omega))⟩
      refine ⟨FtA b (.slice (some ⟨g', 0, none⟩) (vn + 1) cap'), turnA HGR.out (by omega) hblk (fun g hg => (hTn.lt g hg).2) rfl rfl rfl (by rw [set_size, set_size]) (fun y h1 h2 => (set_other h1).trans (set_other h2)), rfl, .slice (some ⟨g', 0, none⟩) (vn + 1) cap', ?_, ?_, rfl, ?_, ?_⟩
      · exact Own.put (p2.of_block (set_other (by show b + 1 + 1 ≠ b + 1 + 1 + 1; omega)))
      · refine hTn.of_block (fun g hg => ?_)
        have := (hTn.lt g hg).1
        exact (set_other (by show g ≠ b + 1 + 1; omega)).trans (set_other (by show g ≠ b + 1 + 1 + 1; omega))
      · exact (hB3.setCell (p := ⟨b + 1 + 1 + 1, 0, none⟩) (by show b ≤ b + 1 + 1 + 1; omega) _).setCell (p := ⟨b + 1 + 1, 0, none⟩) (by show b ≤ b + 1 + 1; omega) _
      · unfold nAll
        rw [if_pos (by omega)]
        omega
    · gi_wp2_with (gi_at_builtin; refine wpListIn_append_own_at _ rfl _ _ 23 rfl (b + 5) 37 i0 _ 11 96 Tryz.underlying23 hi hz0 hz1 hz2 rfl (by decide) _ vn (flat ((toks s).take vn)) rfl (hrow.alloc _) ⟨W2.heap.size, 0, none⟩ 1 1 t.cells.toList rfl rfl (news_new W2 t _) (one_cells t) (by have := HS.out; unfold maxLen; omega) (by have := HS.out; omega) (by have := HZ.out; simp; omega) ?_; intro v' w3 hown' hgrow _ hblk; obtain ⟨g', cap', rfl⟩ := ownsRow_succ hown'; have hg3 : ∀ x, x < W2.heap.size → (Value.slice vp vn vc).ownBlock ≠ some x → w3.heap[x]? = W2.heap[x]? := (fun x h1 h2 => (hgrow.block x (by simp; omega) (fun e => h2 e.symm)).trans (Below.heap_alloc W2 _ x h1)); have p3 := o3.of_block (hg3 _ l3 (hne _ (by omega))); have p0 := o0.of_block (hg3 _ l0 (hne _ (by omega))); have p1 := o1.of_block (hg3 _ l1 (hne _ (by omega))); have p2 := o2.of_block (hg3 _ l2 (hne _ (by omega))); have q0 := p0.cell; have q1 := p1.cell; have q2 := p2.cell; have q3 := p3.cell; have g2 := p2.fro; have g3 := p3.fro; have m0 := p0.lt; have m1 := p1.lt; have m2 := p2.lt; have m3 := p3.lt; have HG : Hid _ := hg3; have HGR : Hid _ := hgrow; clear hg3 hgrow)
      have hz := HZ.out
      have hTn : IsTs w3 (b + 5) (.slice (some ⟨g', 0, none⟩) (vn + 1) cap') ((toks s).take (vn + 1)) := by
        unfold IsTs
        have hl : ((toks s).take (vn + 1)).length = vn + 1 := by rw [List.length_take]; omega
        rw [hl, hsn, flat_snoc]
        exact hown'
      have hB3 : Below b w w3 := hBW.trans ⟨HGR.out.os, HGR.out.tape, HGR.out.output, by have := HGR.out.size; rw [World.size_alloc] at this; omega, fun y hy => HG.out y (by omega) (hne y (by omega))⟩
      refine ⟨FtA b (.slice (some ⟨g', 0, none⟩) (vn + 1) cap'), turnA HGR.out (by omega) hblk (fun g hg => (hTn.lt g hg).2) rfl rfl rfl (by rw [set_size]) (fun y h1 h2 => set_other h2), .slice (some ⟨g', 0, none⟩) (vn + 1) cap', Own.put p3, ?_, ?_, ⟨r, ?_⟩, ?_, rfl, ?_, ?_⟩
      · exact p0.of_block (set_other (by show b ≠ b + 1 + 1 + 1; omega))
      · exact p1.of_block (set_other (by show b + 1 ≠ b + 1 + 1 + 1; omega))
      · exact p2.of_block (set_other (by show b + 1 + 1 ≠ b + 1 + 1 + 1; omega))
      · refine hTn.of_block (fun g hg => ?_)
        have := (hTn.lt g hg).1
        exact set_other (by show g ≠ b + 1 + 1 + 1; omega)
      · exact hB3.setCell (p := ⟨b + 1 + 1 + 1, 0, none⟩) (by show b ≤ b + 1 + 1 + 1; omega) _
      · have := hh.out
        show most < 0 ∨ ((vn + 1 : Nat) : Int) < most
        omega
end Go.Proofs.YtaamphdihmghhaaGreatDoor
