/- Ranging over a map by cells: every cell that is there, each once. No function's text is walked here. · The contract of slices.BinarySearchFunc at a row, by how each stands to what is looked for. New memory alone is made. · What deps keeps by what is referred to: the map of single cells, and the bands. -/
import Derived.Test.YtcjanaldjokllaaGreatQCGENEK
import Derived.Maps.RangeWalk
import Derived.Test.YtcjanaldjokllaaGreatQECEQ
import Derived.Test.YtcjanaldjokllaaGreatQBPBOBBs
namespace Go.Proofs.YtcjanaldjokllaaGreat
open Go.RowKit Go.Shelf
set_option linter.all false
set_option maxRecDepth 100000 in
theorem klK_inv (d : Nat) {v : Value} {ls : List Lit} (h : Tryz.prog.keyLits (d + 1) 3 [v] = some ls) : ∃ a, v = .int .i64 a ∧ (Lit.int .i64 a).wf = true := by
  unfold Program.keyLits at h
  rw [Tryz.underlying3] at h
  cases v <;> simp at h
  obtain ⟨⟨rfl, hw⟩, _⟩ := h
  exact ⟨_, rfl, hw⟩
set_option maxRecDepth 100000 in
theorem key_invC {key : Value} {kl : Lit} (h : keyOf Tryz.prog 32 key = some kl) : ∃ a b, key = .agg #[.int .i64 a, .int .i64 b] ∧ I64 a ∧ I64 b := by
  unfold keyOf at h
  simp only [Tryz.underlying32] at h
  by_cases hc : (Tryz.prog.keyType 32 && key.formed Tryz.prog 32) = true
  · rw [if_pos hc] at h
    have hf : key.formed Tryz.prog 32 = true := by simp at hc; exact hc.2
    cases key <;> simp [Value.formed, Tryz.underlying32] at hf
    rename_i cs
    rw [cellsC] at hf
    obtain ⟨c0, c1, rfl⟩ := array2 hf
    obtain ⟨d, hd⟩ : ∃ d, Tryz.prog.types.size + 1 = d + 1 + 1 := ⟨_, typesK⟩
    rw [hd] at h
    obtain ⟨ls, hl, _⟩ := Option.map_eq_some_iff.1 h
    rw [Program.keyLits.eq_def] at hl
    simp only [Tryz.underlying32, cellsC, Value.cells] at hl
    simp [cellsI] at hl
    obtain ⟨l0, h0, hl⟩ := Option.bind_eq_some_iff.1 hl
    have h1 : ∃ l1, Tryz.prog.keyLits (d + 1) 3 [c1] = some l1 := by
      cases e : Tryz.prog.keyLits (d + 1) 3 [c1] with
      | none => simp [e] at hl
      | some l1 => exact ⟨l1, rfl⟩
    obtain ⟨l1, h1⟩ := h1
    obtain ⟨a, rfl, ha⟩ := klK_inv d h0
    obtain ⟨b, rfl, hb⟩ := klK_inv d h1
    exact ⟨a, b, rfl, i64_of ha, i64_of hb⟩
  · rw [if_neg hc] at h
    cases h
/-- A range under way: K are the cells that were told. -/
def RangeF (w : World) (b r n : Nat) (f : Int → Int → Value) (K : List Cl) (cnt : Nat) : Prop := ∃ (D : DataW Value) (left : Lit → Bool), w.ranges Tryz.prog 32 heldR b r n D left cnt ∧ (∀ x y, I64 x → I64 y → D.atKey (keyC x y) (.held nilS) = .held (f x y)) ∧ (∀ x y, I64 x → I64 y → Maps.has D (keyC x y) = true → f x y ≠ nilS) ∧ (∀ x y, I64 x → I64 y → (left (keyC x y) = true ↔ (Maps.has D (keyC x y) = true ∧ (⟨x, y⟩ : Cl) ∉ K))) ∧ K.Nodup ∧ ∀ k ∈ K, f k.r k.c ≠ nilS ∧ I64 k.r ∧ I64 k.c
theorem RangeF.map {w : World} {b r n : Nat} {f : Int → Int → Value} {K : List Cl} {cnt : Nat} (h : RangeF w b r n f K cnt) : MapF w b n f := by
  obtain ⟨D, left, h1, h2, h3, _⟩ := h
  exact ⟨D, h1.owns, h2, h3⟩
theorem RangeF.ne {w : World} {b r n : Nat} {f : Int → Int → Value} {K : List Cl} {cnt : Nat} (h : RangeF w b r n f K cnt) : r ≠ b := by
  obtain ⟨D, left, h1, _⟩ := h
  exact h1.ne
theorem RangeF.lt {w : World} {b r n : Nat} {f : Int → Int → Value} {K : List Cl} {cnt : Nat} (h : RangeF w b r n f K cnt) : r < w.heap.size := by
  obtain ⟨D, left, h1, _⟩ := h
  exact h1.lt
theorem RangeF.mut {S : Nat → Prop} {w w' : World} {b r n : Nat} {f : Int → Int → Value} {K : List Cl} {cnt : Nat} (h : RangeF w b r n f K cnt) (hm : Mut S w w') (hb : ¬ S b) (hr : ¬ S r) : RangeF w' b r n f K cnt := by
  have hlb := h.map.lt
  have hlr := h.lt
  obtain ⟨D, left, ⟨es, clock, since, seen, c0, g1, g2, g3, g4, g5, g6⟩, h2⟩ := h
  exact ⟨D, left, ⟨es, clock, since, seen, c0, (hm.block b hlb hb).trans g1, g2, g3, g4, (hm.block r hlr hr).trans g5, g6⟩, h2⟩
theorem RangeF.keep {w w' : World} {b r n : Nat} {f : Int → Int → Value} {K : List Cl} {cnt : Nat} (h : RangeF w b r n f K cnt) (hb : Below w.heap.size w w') : RangeF w' b r n f K cnt := h.mut (S := fun _ => False) (Mut.of_below hb) (fun h => h) (fun h => h)
theorem below_grown {w w' : World} (h : w.grownBy w' none) : Below w.heap.size w w' := ⟨h.os, h.tape, h.output, h.size, fun k hk => h.block k hk (by simp)⟩
theorem MapF.range {w : World} {b n : Nat} {f : Int → Int → Value} (h : MapF w b n f) {t e : TypeId} (ht : Tryz.prog.underlying t = some (.map 32 e)) : ∃ w' cnt, (Instr.range t (.map (some b))).run Tryz.prog w = .ok (.pointer (some ⟨w.heap.size, 0, none⟩)) w' ∧ RangeF w' b w.heap.size n f [] cnt ∧ Below w.heap.size w w' ∧ w'.heap.size = w.heap.size + 1 := by
  obtain ⟨D, h1, h2, h3⟩ := h
  obtain ⟨w', r1, r2, r3, r4⟩ := h1.range lawCell ht
  exact ⟨w', _, r1, ⟨D, _, r2, h2, h3, fun x y _ _ => by simp, List.nodup_nil, fun k hk => by cases hk⟩, below_grown r3, r4⟩
theorem RangeF.next {w : World} {b r n : Nat} {f : Int → Int → Value} {K : List Cl} {cnt : Nat} (h : RangeF w b r n f K cnt) (ty : TypeId) :
    ((∀ x y, I64 x → I64 y → f x y ≠ nilS → (⟨x, y⟩ : Cl) ∈ K) ∧ (Instr.next (.pointer (some ⟨r, 0, none⟩)) false ty).run Tryz.prog w = .ok (.tuple #[.bool false]) w) ∨
    ∃ x y w' cnt', I64 x ∧ I64 y ∧ (⟨x, y⟩ : Cl) ∉ K ∧ f x y ≠ nilS ∧ (Instr.next (.pointer (some ⟨r, 0, none⟩)) false ty).run Tryz.prog w = .ok (.tuple #[.bool true, .agg #[.int .i64 x, .int .i64 y], f x y]) w' ∧ RangeF w' b r n f (K ++ [⟨x, y⟩]) cnt' ∧ cnt' < cnt ∧ Mut (fun k => k = r) w w' ∧ w'.heap.size = w.heap.size ∧ (Instr.entry (.pointer (some ⟨r, 0, none⟩))).run Tryz.prog w' = .ok (.tuple #[.agg #[.int .i64 x, .int .i64 y], f x y]) w' := by
  obtain ⟨D, left, h1, h2, h3, h4, h5, h6⟩ := h
  rcases h1.next lawCell ty with ⟨q0, q1, q2⟩ | ⟨key, v, kl, y0, w', cnt', hkey, hlk, hv, hat, hrun, hrg, hlt, hgr, hsz, hen⟩
  · refine .inl ⟨fun x y hx hy hf => ?_, q2⟩
    by_cases hm : (⟨x, y⟩ : Cl) ∈ K
    · exact hm
    · have hD : Maps.has D (keyC x y) = true := by
        cases e : Maps.has D (keyC x y)
        · have := h2 x y hx hy
          rw [Maps.atKey_of_not_has e] at this
          exact absurd (DataW.held.inj this).symm hf
        · rfl
      have := (h4 x y hx hy).2 ⟨hD, hm⟩
      rw [q1] at this
      cases this
  · obtain ⟨x, y, rfl, hx, hy⟩ := key_invC hkey
    have hkl : kl = keyC x y := by
      have := key_ofC x y hx hy
      rw [hkey] at this
      exact Option.some.inj this
    subst hkl
    have hy0 : y0.1 = .held v := by
      have hv2 := Option.some.inj hv
      rw [← hv2]
    have hfv : f x y = v := by
      have e1 := h2 x y hx hy
      rw [hat, hy0] at e1
      exact (DataW.held.inj e1).symm
    subst hfv
    have hD : Maps.has D (keyC x y) = true := Maps.has_true_of_atKey (y := .held (f x y)) (fun z => by rw [hat, hy0])
    have hnK := ((h4 x y hx hy).1 hlk).2
    have hne := h3 x y hx hy hD
    refine .inr ⟨x, y, w', cnt', hx, hy, hnK, hne, hrun, ⟨D, _, hrg, h2, h3, fun a c ha hc => ?_, ?_, ?_⟩, hlt, mut_grown hgr, hsz, hen⟩
    · simp only [Bool.and_eq_true, Bool.not_eq_true']
      rw [h4 a c ha hc]
      by_cases e : a = x ∧ c = y
      · obtain ⟨rfl, rfl⟩ := e
        simp [WideAt.sameKey_self (isKeyC a c ha hc)]
      · have e2 : (keyC a c).sameKey (keyC x y) = false := Maps.sameKey_ne (fun q => e (keyC_inj ha hc hx hy q))
        have e3 : ¬ ((⟨a, c⟩ : Cl) = ⟨x, y⟩) := by intro q; injection q with q1 q2; exact e ⟨q1, q2⟩
        simp [e2, e3]
    · rw [List.nodup_append]
      exact ⟨h5, by simp, fun p hp q hq => by simp at hq; subst hq; intro e; subst e; exact hnK hp⟩
    · intro k hk
      rcases List.mem_append.1 hk with q | q
      · exact h6 k q
      · simp at q
        subst q
        exact ⟨hne, hx, hy⟩
end Go.Proofs.YtcjanaldjokllaaGreat
namespace Go.Proofs.YtcjanaldjokllaaGreat
open Go.RowKit
set_option linter.all false
set_option maxRecDepth 100000 in
set_option maxHeartbeats 2000000 in
theorem bs_yc (w : World) (b cp n : Nat) (l : List Cl) (k0 k1 : Int) (f : Cl → Int) (hla : b < w.heap.size) (HA : ∀ i x j u, l[i]? = some x → x.cs[j]? = some u → w.cell? ⟨b, i * 2 + j, none⟩ = some u) (hn : l.length = n) (hc : n ≤ cp) (hl : n ≤ 4000000000000) (hS : Hid (MonoF f l)) (HKf : Hid (∀ W : World, Below w.heap.size w W → ∀ x ∈ l, Calls Tryz.prog 34 #[.agg #[.int .i64 x.r, .int .i64 x.c], .agg #[.int .i64 k0, .int .i64 k1]] W fun e w' => e = .returned (.int .i64 (f x)) ∧ Below W.heap.size W w')) :
    Calls Tryz.prog 39 #[.slice (some ⟨b, 0, none⟩) n cp, .agg #[.int .i64 k0, .int .i64 k1], (.func (.func 34) #[] #[])] w fun e w' => e = .returned (.tuple #[.int .i64 (idxF f l), .bool (hasF f l)]) ∧ Below w.heap.size w w' := by
  have HA' : Hid _ := HA
  have HL : Hid (l.length = n) := hn
  clear HA hn
  have mixed : Tryz.prog.follows .mixedOrders = true := by kernel_rfl
  go_enter Tryz.func39, Tryz.ntmps39
  go_wp2
  go_loopw [9, 10] (fun u v w' => ∃ (i j : Nat), u = .int .i64 i ∧ v = .int .i64 j ∧ i ≤ j ∧ j ≤ n ∧ Hid (∀ t x, t < i → l[t]? = some x → f x < 0) ∧ Hid (∀ t x, j ≤ t → l[t]? = some x → 0 ≤ f x) ∧ Own w' w.heap.size #[.int .i64 k0, .int .i64 k1] ∧ Below w.heap.size w w') (fun u v _ => (intOf v).toNat - (intOf u).toNat)
  case atStart => exact ⟨0, n, rfl, rfl, by omega, by omega, (show Hid _ from fun t x h => absurd h (Nat.not_lt_zero _)), (show Hid _ from fun t x h hx => absurd (List.getElem?_eq_some_iff.1 hx).1 (by rw [HL.out]; omega)), by with_reducible (repeat' first | assumption | refine Own.drew ?_ | refine Own.drewN ?_ _ | (refine Own.at ?_; first | rfl | (simp; done)) | refine Own.past ?_ _), by with_reducible (repeat' first | assumption | exact Below.refl _ _ | refine Below.drew ?_ | refine bdrewN ?_ _ | refine Below.setCell ?_ (by first | exact Nat.le_refl _ | (simp; done) | (simp; omega) | omega) _ | refine Below.alloc ?_ (by first | exact Nat.le_refl _ | (simp; done) | (simp; omega) | omega) _)⟩
  case round =>
    obtain ⟨i, j, rfl, rfl, hij, hjn, hlo, hhi, oK, hB3⟩ := hrel
    have cK := oK.cell
    have lK := oK.lt
    have z3 := hB3.size
    by_cases hlt : i < j
    · have hlt' : (i : Int) < j := by omega
      obtain ⟨h, hh⟩ : ∃ h : Nat, h = (i + j) / 2 := ⟨_, rfl⟩
      have h1 : i ≤ h := by omega
      have h2 : h < j := by omega
      have h3 : (h : Int) < n := by omega
      have h4 : (0 : Int) ≤ h := by omega
      have hd1 : ((i : Int) + j) / 2 = h := by omega
      have hd2 : ((i : Int) + j) >>> 1 = h := by rw [Int.shiftRight_eq_div_pow]; omega
      obtain ⟨x, hai⟩ : ∃ x, l[h]? = some x := ⟨_, List.getElem?_eq_getElem (by rw [HL.out]; omega)⟩
      have ca' : ∀ j u, x.cs[j]? = some u → wr.cell? ⟨b, h * 2 + j, none⟩ = some u := fun j u hu => (hB3.cell (p := ⟨b, h * 2 + j, none⟩) hla).trans (HA'.out h x j u hai hu)
      have y0 : wr.cell? ⟨b, h * 2, none⟩ = some (.int .i64 x.r) := ca' 0 _ rfl
      have y1 : wr.cell? ⟨b, h * 2 + 1, none⟩ = some (.int .i64 x.c) := ca' 1 _ rfl
      have HAi : Hid (l[h]? = some x) := hai
      have HK : Hid (∀ W : World, Below w.heap.size w W → Calls Tryz.prog 34 #[.agg #[.int .i64 x.r, .int .i64 x.c], .agg #[.int .i64 k0, .int .i64 k1]] W fun e w' => e = .returned (.int .i64 (f x)) ∧ Below W.heap.size W w') := (show _ from fun W hb => HKf.out W hb x (List.mem_of_getElem? hai))
      clear ca' hai hh
      obtain ⟨q, hq⟩ : ∃ q : Int, f x = q := ⟨_, rfl⟩
      rw [hq] at HK
      have HQ : Hid (f x = q) := hq
      clear hq
      by_cases hneg : q < 0
      · go_wp2
        go_region_held3 (fun w' => w'.cell? ⟨b, h * 2, none⟩ = some (.int .i64 x.r) ∧ w'.cell? ⟨b, h * 2 + 1, none⟩ = some (.int .i64 x.c) ∧ w'.cell? ⟨w.heap.size, 0, none⟩ = some (.int .i64 k0) ∧ w'.cell? ⟨w.heap.size, 1, none⟩ = some (.int .i64 k1)) ((repeat' apply And.intro) <;> (first | (go_keep; done) | (go_simp; done))) ((go_at_call 34; refine (HK.out _ zqb).mono ?_; rintro e wa ⟨rfl, hbwa⟩; have hBwa : Below w.heap.size w wa := bup zqb hbwa; have hRwa : Below wr.heap.size wr wa := bup zqb hbwa; have oKa := oK.keep hRwa; have cKa := oKa.cell; have ya0 := (hRwa.cell (p := ⟨b, h * 2, none⟩) (Nat.lt_of_lt_of_le hla z3)).trans y0; have ya1 := (hRwa.cell (p := ⟨b, h * 2 + 1, none⟩) (Nat.lt_of_lt_of_le hla z3)).trans y1))
        go_wp2
        exact ⟨⟨h + 1, j, by go_num, rfl, by omega, by omega, (show Hid _ from loF_next hS.out HAi.out (by rw [HQ.out]; exact hneg)), hhi, oKa, hBwa⟩, by simp [intOf]; omega⟩
      · go_wp2
        go_region_held3 (fun w' => w'.cell? ⟨b, h * 2, none⟩ = some (.int .i64 x.r) ∧ w'.cell? ⟨b, h * 2 + 1, none⟩ = some (.int .i64 x.c) ∧ w'.cell? ⟨w.heap.size, 0, none⟩ = some (.int .i64 k0) ∧ w'.cell? ⟨w.heap.size, 1, none⟩ = some (.int .i64 k1)) ((repeat' apply And.intro) <;> (first | (go_keep; done) | (go_simp; done))) ((go_at_call 34; refine (HK.out _ zqb).mono ?_; rintro e wa ⟨rfl, hbwa⟩; have hBwa : Below w.heap.size w wa := bup zqb hbwa; have hRwa : Below wr.heap.size wr wa := bup zqb hbwa; have oKa := oK.keep hRwa; have cKa := oKa.cell; have ya0 := (hRwa.cell (p := ⟨b, h * 2, none⟩) (Nat.lt_of_lt_of_le hla z3)).trans y0; have ya1 := (hRwa.cell (p := ⟨b, h * 2 + 1, none⟩) (Nat.lt_of_lt_of_le hla z3)).trans y1))
        go_wp2
        exact ⟨⟨i, h, rfl, rfl, by omega, by omega, hlo, (show Hid _ from hiF_next hS.out HAi.out (by rw [HQ.out]; omega)), oKa, hBwa⟩, by simp [intOf]; omega⟩
    · have hlt' : ¬ (i : Int) < j := by omega
      have HI : Hid (i = idxF f l) := (show _ from idxF_of hS.out (by rw [HL.out]; omega) hlo.out (fun t x ht => hhi.out t x (by omega)))
      by_cases hin : i < n
      · have hin' : (i : Int) < n := by omega
        have hin'' : decide ((i : Int) < n) = true := by simpa using hin
        obtain ⟨h, hhi'⟩ : ∃ h, h = i := ⟨_, rfl⟩
        subst hhi'
        obtain ⟨x, hai⟩ : ∃ x, l[h]? = some x := ⟨_, List.getElem?_eq_getElem (by rw [HL.out]; omega)⟩
        have ca' : ∀ j u, x.cs[j]? = some u → wr.cell? ⟨b, h * 2 + j, none⟩ = some u := fun j u hu => (hB3.cell (p := ⟨b, h * 2 + j, none⟩) hla).trans (HA'.out h x j u hai hu)
        have y0 : wr.cell? ⟨b, h * 2, none⟩ = some (.int .i64 x.r) := ca' 0 _ rfl
        have y1 : wr.cell? ⟨b, h * 2 + 1, none⟩ = some (.int .i64 x.c) := ca' 1 _ rfl
        have HK : Hid (∀ W : World, Below w.heap.size w W → Calls Tryz.prog 34 #[.agg #[.int .i64 x.r, .int .i64 x.c], .agg #[.int .i64 k0, .int .i64 k1]] W fun e w' => e = .returned (.int .i64 (f x)) ∧ Below W.heap.size W w') := (show _ from fun W hb => HKf.out W hb x (List.mem_of_getElem? hai))
        have HF : Hid (hasF f l = decide (f x = 0)) := (show _ from idx_has hS.out (by rw [← HI.out]; exact hai))
        clear ca' hai
        obtain ⟨q, hq⟩ : ∃ q : Int, f x = q := ⟨_, rfl⟩
        rw [hq] at HK HF
        clear hq
        by_cases hz : q = 0
        · subst hz
          go_wp2
          go_region_held3 (fun w' => w'.cell? ⟨b, h * 2, none⟩ = some (.int .i64 x.r) ∧ w'.cell? ⟨b, h * 2 + 1, none⟩ = some (.int .i64 x.c) ∧ w'.cell? ⟨w.heap.size, 0, none⟩ = some (.int .i64 k0) ∧ w'.cell? ⟨w.heap.size, 1, none⟩ = some (.int .i64 k1)) ((repeat' apply And.intro) <;> (first | (go_keep; done) | (go_simp; done))) ((go_at_call 34; refine (HK.out _ zqb).mono ?_; rintro e wa ⟨rfl, hbwa⟩; have hBwa : Below w.heap.size w wa := bup zqb hbwa; have hRwa : Below wr.heap.size wr wa := bup zqb hbwa; have oKa := oK.keep hRwa; have cKa := oKa.cell; have ya0 := (hRwa.cell (p := ⟨b, h * 2, none⟩) (Nat.lt_of_lt_of_le hla z3)).trans y0; have ya1 := (hRwa.cell (p := ⟨b, h * 2 + 1, none⟩) (Nat.lt_of_lt_of_le hla z3)).trans y1))
          go_wp2
          exact bodyPost_ret (v := .tuple #[.int .i64 h, .bool true]) (by simp [results, Tryz.results39, go_sem]) rfl ⟨by rw [← HI.out, HF.out]; rfl, hBwa⟩
        · have hqb : (q == 0) = false := by simpa using hz
          go_wp2
          go_region_held3 (fun w' => w'.cell? ⟨b, h * 2, none⟩ = some (.int .i64 x.r) ∧ w'.cell? ⟨b, h * 2 + 1, none⟩ = some (.int .i64 x.c) ∧ w'.cell? ⟨w.heap.size, 0, none⟩ = some (.int .i64 k0) ∧ w'.cell? ⟨w.heap.size, 1, none⟩ = some (.int .i64 k1)) ((repeat' apply And.intro) <;> (first | (go_keep; done) | (go_simp; done))) ((go_at_call 34; refine (HK.out _ zqb).mono ?_; rintro e wa ⟨rfl, hbwa⟩; have hBwa : Below w.heap.size w wa := bup zqb hbwa; have hRwa : Below wr.heap.size wr wa := bup zqb hbwa; have oKa := oK.keep hRwa; have cKa := oKa.cell; have ya0 := (hRwa.cell (p := ⟨b, h * 2, none⟩) (Nat.lt_of_lt_of_le hla z3)).trans y0; have ya1 := (hRwa.cell (p := ⟨b, h * 2 + 1, none⟩) (Nat.lt_of_lt_of_le hla z3)).trans y1))
          go_wp2
          exact bodyPost_ret (v := .tuple #[.int .i64 h, .bool false]) (by simp [results, Tryz.results39, go_sem, hz]) rfl ⟨by rw [← HI.out, HF.out]; simp [hz], hBwa⟩
      · have hin' : ¬ (i : Int) < n := by omega
        have hin'' : decide ((i : Int) < n) = false := by simpa using hin
        have HF : Hid (hasF f l = false) := (show _ from idx_end hS.out (by rw [← HI.out, HL.out]; omega))
        go_wp2
        go_quiet (fail)
        go_wp2
        exact bodyPost_ret (v := .tuple #[.int .i64 i, .bool false]) (by simp [results, Tryz.results39, go_sem]) rfl ⟨by rw [← HI.out, HF.out], by with_reducible (repeat' first | assumption | exact Below.refl _ _ | refine Below.drew ?_ | refine bdrewN ?_ _ | refine Below.setCell ?_ (by first | exact Nat.le_refl _ | (simp; done) | (simp; omega) | omega) _ | refine Below.alloc ?_ (by first | exact Nat.le_refl _ | (simp; done) | (simp; omega) | omega) _)⟩
set_option maxRecDepth 100000 in
theorem bs_nilc (w : World) (k0 k1 : Int) :
    Calls Tryz.prog 39 #[.slice none 0 0, .agg #[.int .i64 k0, .int .i64 k1], (.func (.func 34) #[] #[])] w fun e w' => e = .returned (.tuple #[.int .i64 0, .bool false]) ∧ Below w.heap.size w w' := by
  have mixed : Tryz.prog.follows .mixedOrders = true := by kernel_rfl
  go_enter Tryz.func39, Tryz.ntmps39
  go_wp2
  go_loop [9, 10] (fun u v => u = .int .i64 0 ∧ v = .int .i64 0) (fun _ _ => 0)
  case atStart => exact ⟨rfl, rfl⟩
  case round =>
    obtain ⟨rfl, rfl⟩ := hrel
    go_wp2
    go_quiet (fail)
    go_wp2
    exact bodyPost_ret (v := .tuple #[.int .i64 0, .bool false]) (by simp [results, Tryz.results39, go_sem]) rfl ⟨rfl, by with_reducible (repeat' first | assumption | exact Below.refl _ _ | refine Below.drew ?_ | refine bdrewN ?_ _ | refine Below.setCell ?_ (by first | exact Nat.le_refl _ | (simp; done) | (simp; omega) | omega) _ | refine Below.alloc ?_ (by first | exact Nat.le_refl _ | (simp; done) | (simp; omega) | omega) _)⟩
/-- slices.BinarySearchFunc, everywhere. -/
theorem bs_anyc (w : World) (v : Value) (l : List Cl) (k0 k1 : Int) (f : Cl → Int) (hv : RowK w v l) (hl : l.length ≤ 4000000000000) (hS : MonoF f l) (HK : (∀ W : World, Below w.heap.size w W → ∀ x ∈ l, Calls Tryz.prog 34 #[.agg #[.int .i64 x.r, .int .i64 x.c], .agg #[.int .i64 k0, .int .i64 k1]] W fun e w' => e = .returned (.int .i64 (f x)) ∧ Below W.heap.size W w')) :
    Calls Tryz.prog 39 #[v, .agg #[.int .i64 k0, .int .i64 k1], (.func (.func 34) #[] #[])] w fun e w' => e = .returned (.tuple #[.int .i64 (idxF f l), .bool (hasF f l)]) ∧ Below w.heap.size w w' := by
  rcases hv.two with ⟨rfl, rfl⟩ | ⟨g, cap, cur, rfl, _, h1, h2, h3, h4, h5, h6⟩
  · exact bs_nilc w k0 k1
  · exact bs_yc w g cap l.length l k0 k1 f h1 (row_cellsG Cl.len h2 h6) rfl h3 hl hS HK
end Go.Proofs.YtcjanaldjokllaaGreat
namespace Go.Proofs.YtcjanaldjokllaaGreat
open Go.RowKit Go.Shelf
set_option linter.all false
abbrev TagD := Nat × Int × Int
/-- The tags of what lies on the side of what is referred to: the map (2), its lists (4), the bands (5). -/
def isTo : Option TagD → Prop
  | some (k, _, _) => k = 2 ∨ k = 4 ∨ k = 5
  | none => False
/-- The map at bc and the bands at NB tell just who has which reference (G); B tells of each block what it is. -/
structure To (w : World) (bc NB : Nat) (B : Nat → Option TagD) (G : Int → Int → Rf → Prop) (n m : Nat) : Prop where
  map : ∃ fc, MapF w bc n fc ∧ ∀ x y, I64 x → I64 y → ∃ L, RowK w (fc x y) L ∧ (L = [] → fc x y = nilS) ∧ L.Pairwise (fun a b => cmpK a b < 0) ∧ (∀ z, z ∈ L ↔ G z.r z.c ⟨false, x, y, x, y⟩) ∧ (∀ g, (fc x y).ownBlock = some g → B g = some (4, x, y)) ∧ L.length ≤ m
  bcT : B bc = some (2, 0, 0)
  bands : ∃ D P, Bd w NB D P m ∧ (∀ b, (D b).isSome = true → B b = some (5, 0, 0)) ∧ (∀ p : Pr, p ∈ P ↔ G p.r p.c ⟨true, p.t, p.l, p.b, p.q⟩)
def ToOut (w : World) (bc NB : Nat) (B : Nat → Option TagD) (G' : Int → Int → Rf → Prop) (n m : Nat) (w' : World) : Prop := ∃ B', To w' bc NB B' G' n m ∧ Mut (fun b => isTo (B b)) w w' ∧ (∀ b, b < w.heap.size → B' b = B b) ∧ (∀ b, w.heap.size ≤ b → B' b = none ∨ (b < w'.heap.size ∧ isTo (B' b)))
theorem To.keep {w w' : World} {bc NB : Nat} {B : Nat → Option TagD} {G : Int → Int → Rf → Prop} {n m : Nat} (h : To w bc NB B G n m) (hb : Below w.heap.size w w') : To w' bc NB B G n m := by
  obtain ⟨⟨fc, h1, h2⟩, h3, D, P, h4, h5⟩ := h
  refine ⟨⟨fc, h1.keep hb, fun x y hx hy => ?_⟩, h3, D, P, h4.keep hb, h5⟩
  obtain ⟨L, k1, k2⟩ := h2 x y hx hy
  exact ⟨L, RowG.keep k1 hb, k2⟩
/-- Blocks that are none of these are turned, no more. -/
theorem To.mut {S : Nat → Prop} {w w' : World} {bc NB : Nat} {B : Nat → Option TagD} {G : Int → Int → Rf → Prop} {n m : Nat} (h : To w bc NB B G n m) (hm : Mut S w w') (hs : ∀ b, isTo (B b) → ¬ S b) : To w' bc NB B G n m := by
  obtain ⟨⟨fc, h1, h2⟩, h3, D, P, h4, h5, h6⟩ := h
  refine ⟨⟨fc, h1.mut hm (hs bc (by rw [h3]; exact .inl rfl)), fun x y hx hy => ?_⟩, h3, D, P, h4.mut hm (fun b q => hs b (by rw [h5 b q]; exact .inr (.inr rfl))), h5, h6⟩
  obtain ⟨L, k1, k2, k3, k4, k5, k6⟩ := h2 x y hx hy
  exact ⟨L, RowG.mut k1 hm (fun g q => hs g (by rw [k5 g q]; exact .inr (.inl rfl))), k2, k3, k4, k5, k6⟩
theorem To.more {w : World} {bc NB : Nat} {B : Nat → Option TagD} {G : Int → Int → Rf → Prop} {n m n' m' : Nat} (h : To w bc NB B G n m) (hn : n ≤ n') (hm : m ≤ m') : To w bc NB B G n' m' := by
  obtain ⟨⟨fc, h1, h2⟩, h3, D, P, h4, h5⟩ := h
  refine ⟨⟨fc, h1.more hn, fun x y hx hy => ?_⟩, h3, D, P, h4.more hm, h5⟩
  obtain ⟨L, k1, k2, k3, k4, k5, k6⟩ := h2 x y hx hy
  exact ⟨L, k1, k2, k3, k4, k5, Nat.le_trans k6 hm⟩
/-- It is of who refers alone what G says. -/
theorem To.congr {w : World} {bc NB : Nat} {B : Nat → Option TagD} {G G' : Int → Int → Rf → Prop} {n m : Nat} (h : To w bc NB B G n m) (hG : ∀ r c f, G r c f ↔ G' r c f) : To w bc NB B G' n m := by
  obtain ⟨⟨fc, h1, h2⟩, h3, D, P, h4, h5, h6⟩ := h
  refine ⟨⟨fc, h1, fun x y hx hy => ?_⟩, h3, D, P, h4, h5, fun p => (h6 p).trans (hG _ _ _)⟩
  obtain ⟨L, k1, k2, k3, k4, k5⟩ := h2 x y hx hy
  exact ⟨L, k1, k2, k3, fun z => (k4 z).trans (hG _ _ _), k5⟩
def addG (G : Int → Int → Rf → Prop) (r c : Int) (f : Rf) : Int → Int → Rf → Prop := fun r' c' f' => G r' c' f' ∨ (r' = r ∧ c' = c ∧ f' = f)
def remG (G : Int → Int → Rf → Prop) (r c : Int) (f : Rf) : Int → Int → Rf → Prop := fun r' c' f' => G r' c' f' ∧ ¬ (r' = r ∧ c' = c ∧ f' = f)
theorem BdOut.back {w W w' : World} {N : Nat} {D : Nat → Option Tag} {P' : List Pr} {m : Nat} (hb : Below w.heap.size w W) (h : BdOut W N D P' m w') : BdOut w N D P' m w' := by
  obtain ⟨D', k1, k2, k3⟩ := h
  exact ⟨D', k1, (Mut.of_below hb).call k2 (fun b q => .inl q), fun b q => (k3 b q).imp id (fun q => Nat.le_trans hb.size q)⟩
/-- The bands alone are turned. -/
theorem to_bands {w w' : World} {bc NB : Nat} {B : Nat → Option TagD} {G G' : Int → Int → Rf → Prop} {n m m' : Nat} (h : To w bc NB B G n m) (hmm : m ≤ m') {D : Nat → Option Tag} {P' : List Pr} (h5 : ∀ b, (D b).isSome = true → B b = some (5, 0, 0))
    (hq : BdOut w NB D P' m' w') (k4 : ∀ p : Pr, p ∈ P' ↔ G' p.r p.c ⟨true, p.t, p.l, p.b, p.q⟩) (hG : ∀ r c x y, G r c ⟨false, x, y, x, y⟩ ↔ G' r c ⟨false, x, y, x, y⟩) : ToOut w bc NB B G' n m' w' := by
  obtain ⟨⟨fc, h1, h2⟩, h3, _⟩ := h
  obtain ⟨D', k1, k2, k3⟩ := hq
  have hlb := h1.lt
  have hm : Mut (fun b => isTo (B b)) w w' := (Mut.refl _ w).call k2 (fun b q => .inl (by show isTo (B b); rw [h5 b q]; exact .inr (.inr rfl)))
  refine ⟨fun b => if b < w.heap.size then B b else if (D' b).isSome = true then some (5, 0, 0) else none, ⟨⟨fc, h1.mut k2 (fun q => by have := h5 bc q; rw [h3] at this; cases this), fun x y hx hy => ?_⟩, by show (if bc < w.heap.size then B bc else _) = _; rw [if_pos hlb]; exact h3, D', P', k1, fun b q => ?_, k4⟩, hm, fun b hb => if_pos hb, fun b hb => ?_⟩
  · obtain ⟨L, g1, g2, g3, g4, g5, g6⟩ := h2 x y hx hy
    refine ⟨L, RowG.mut g1 k2 (fun g q1 q2 => by have := h5 g q2; rw [g5 g q1] at this; cases this), g2, g3, fun z => (g4 z).trans (hG _ _ _ _), fun g q => ?_, Nat.le_trans g6 hmm⟩
    have hl := (RowG.lt g1 g q).2
    show (if g < w.heap.size then B g else _) = _
    rw [if_pos hl]
    exact g5 g q
  · show (if b < w.heap.size then B b else _) = _
    by_cases hb : b < w.heap.size
    · rw [if_pos hb]
      rcases k3 b q with q2 | q2
      · exact h5 b q2
      · omega
    · rw [if_neg hb, if_pos q]
  · show (if b < w.heap.size then B b else _) = none ∨ _
    have hn : ¬ b < w.heap.size := by omega
    simp only [if_neg hn]
    by_cases q : (D' b).isSome = true
    · rw [if_pos q]; exact .inr ⟨k1.dom b q, .inr (.inr rfl)⟩
    · rw [if_neg q]; exact .inl rfl
end Go.Proofs.YtcjanaldjokllaaGreat
