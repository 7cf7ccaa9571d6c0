/- The document's Set: what it leaves behind; where it is refused. -/
import Derived.Test.YtgojnijpjfdocaaGreatHA
namespace Go.Proofs.YtgojnijpjfdocaaGreat
open Go.RowKit Go.Shelf
set_option linter.all false
/-- The document's Deps turned: another list of edges. -/
def ROut (w : World) (R : Nat) (v : Value) (P' : List Ed) (w' : World) : Prop := (∃ v', Own w' R #[v'] ∧ RowD w' 0 v' P' ∧ ∀ g, v'.ownBlock = some g → v.ownBlock = some g ∨ w.heap.size ≤ g) ∧ Mut (fun k => k = R) w w'
theorem ROut.same {w w' : World} {R : Nat} {v : Value} {P : List Ed} (ho : Own w R #[v]) (hr : RowD w 0 v P) (hb : Below w.heap.size w w') : ROut w R v P w' := ⟨⟨v, ho.keep hb, RowG.keep hr hb, fun g hg => .inl hg⟩, Mut.of_below hb⟩
theorem ROut.put {w W : World} {R : Nat} {v u : Value} {P' : List Ed} (ho : Own w R #[v]) (hb : Below w.heap.size w W) (hr : RowD W w.heap.size u P') : ROut w R v P' (W.setCell ⟨R, 0, none⟩ u) :=
  ⟨⟨u, own_put (k := 0) (ho.keep hb) (by simp), RowG.mono (RowG.aside hr _ (fun g hg => by have := (RowG.lt hr g hg).1; have := ho.lt; simp; omega)) (Nat.zero_le _), fun g hg => .inr (RowG.lt hr g hg).1⟩, Mut.set (S := fun k => k = R) (Mut.of_below hb) (.inl rfl) _⟩
def inC (d : Dv) (e : Ed) : Bool := sameC e.r e.c d.r d.c
/-- The list under way. -/
structure Ins (P : List Ed) (d : Dv) (k : Nat) (L : List Ed) : Prop where
  srt : SrtE L
  mem : ∀ e, e ∈ L ↔ ((e ∈ P ∧ inC d e = false) ∨ (inC d e = true ∧ e.f ∈ d.l.take k))
  len : L.length ≤ P.length + k
theorem Ins.first {P : List Ed} {d : Dv} (h : SrtE P) : Ins P d 0 (P.filter (fun e => !inC d e)) := by
  refine ⟨h.filter _, fun e => ?_, Nat.le_trans (List.length_filter_le _ _) (by omega)⟩
  rw [List.mem_filter]
  simp
theorem srt_ins {L : List Ed} (h : SrtE L) {x : Ed} {k : Nat} (hk : k ≤ L.length) (h1 : ∀ j y, j < k → L[j]? = some y → cmpD y x < 0) (h2 : ∀ y, L[k]? = some y → 0 ≤ cmpD y x ∧ y ≠ x) : SrtE (L.take k ++ [x] ++ L.drop k) ∧ ∀ e, e ∈ L.take k ++ [x] ++ L.drop k ↔ (e ∈ L ∨ e = x) := by
  have hs : SrtE (L.take k ++ L.drop k) := by rw [List.take_append_drop]; exact h
  rw [SrtE, List.pairwise_append] at hs
  have a1 : ∀ y ∈ L.take k, cmpD y x < 0 := fun y hy => by
    obtain ⟨j, hj, rfl⟩ := List.getElem_of_mem hy
    rw [List.length_take] at hj
    refine h1 j _ (by omega) ?_
    rw [List.getElem_take]
    exact List.getElem?_eq_getElem (by omega)
  have a2 : ∀ z ∈ L.drop k, cmpD x z < 0 := fun z hz => by
    cases hd : L[k]? with
    | none =>
      rw [List.drop_of_length_le (by have := List.getElem?_eq_none_iff.1 hd; omega)] at hz
      cases hz
    | some y =>
      obtain ⟨q1, q2⟩ := h2 y hd
      have hxy : cmpD x y < 0 := by
        by_cases q : cmpD x y < 0
        · exact q
        · exact absurd (cmpD_tot y x (decide_eq_false (by omega)) (decide_eq_false q)) q2
      obtain ⟨hk2, rfl⟩ := List.getElem?_eq_some_iff.1 hd
      rw [List.drop_eq_getElem_cons hk2] at hz
      rcases List.mem_cons.1 hz with p | p
      · rw [p]; exact hxy
      · have hs2 := hs.2.1
        rw [List.drop_eq_getElem_cons hk2] at hs2
        exact cmpD_tr hxy ((List.pairwise_cons.1 hs2).1 z p)
  refine ⟨?_, fun e => ?_⟩
  · rw [SrtE, List.append_assoc, List.pairwise_append]
    refine ⟨hs.1, List.pairwise_cons.2 ⟨a2, hs.2.1⟩, fun a ha b hb => ?_⟩
    rcases List.mem_cons.1 hb with p | p
    · rw [p]; exact a1 a ha
    · exact hs.2.2 a ha b p
  · have e1 : (e ∈ L) ↔ (e ∈ L.take k ∨ e ∈ L.drop k) := by rw [← List.mem_append, List.take_append_drop]
    rw [List.mem_append, List.mem_append, List.mem_singleton, e1]
    constructor
    · rintro ((q | q) | q)
      · exact .inl (.inl q)
      · exact .inr q
      · exact .inl (.inr q)
    · rintro ((q | q) | q)
      · exact .inl (.inl q)
      · exact .inr q
      · exact .inl (.inr q)
theorem take_memf {l : List Rf} {k : Nat} {f : Rf} (h : l[k]? = some f) (g : Rf) : g ∈ l.take (k + 1) ↔ (g ∈ l.take k ∨ g = f) := by
  rw [List.take_succ, h]
  simp
theorem inC_is {d : Dv} {e : Ed} : inC d e = true ↔ (e.r = d.r ∧ e.c = d.c) := sameC_is
theorem Ins.more {P : List Ed} {d : Dv} {k at' : Nat} {L : List Ed} {f : Rf} (h : Ins P d k L) (hf : d.l[k]? = some f) (hk : at' ≤ L.length) (h1 : ∀ j y, j < at' → L[j]? = some y → cmpD y ⟨d.r, d.c, f⟩ < 0) (h2 : ∀ y, L[at']? = some y → 0 ≤ cmpD y ⟨d.r, d.c, f⟩ ∧ y ≠ ⟨d.r, d.c, f⟩) : Ins P d (k + 1) (L.take at' ++ [⟨d.r, d.c, f⟩] ++ L.drop at') := by
  obtain ⟨s1, s2⟩ := srt_ins h.srt hk h1 h2
  refine ⟨s1, fun e => ?_, ?_⟩
  · rw [s2, h.mem, take_memf hf]
    constructor
    · rintro ((q | q) | q)
      · exact .inl q
      · exact .inr ⟨q.1, .inl q.2⟩
      · rw [q]; exact .inr ⟨inC_is.2 ⟨rfl, rfl⟩, .inr rfl⟩
    · rintro (q | ⟨q1, q2 | q2⟩)
      · exact .inl (.inl q)
      · exact .inl (.inr ⟨q1, q2⟩)
      · right
        obtain ⟨r, c, g⟩ := e
        have := inC_is.1 q1
        simp only at this q2
        rw [this.1, this.2, q2]
  · have := h.len
    simp only [List.length_append, List.length_take, List.length_drop, List.length_singleton]
    omega
theorem Ins.same {P : List Ed} {d : Dv} {k : Nat} {L : List Ed} {f : Rf} (h : Ins P d k L) (hf : d.l[k]? = some f) (hx : (⟨d.r, d.c, f⟩ : Ed) ∈ L) : Ins P d (k + 1) L := by
  refine ⟨h.srt, fun e => ?_, Nat.le_trans h.len (by omega)⟩
  rw [take_memf hf]
  constructor
  · intro q
    rcases (h.mem e).1 q with p | p
    · exact .inl p
    · exact .inr ⟨p.1, .inl p.2⟩
  · rintro (q | ⟨q1, q2 | q2⟩)
    · exact (h.mem e).2 (.inl q)
    · exact (h.mem e).2 (.inr ⟨q1, q2⟩)
    · obtain ⟨r, c, g⟩ := e
      have := inC_is.1 q1
      simp only at this q2
      rw [this.1, this.2, q2]
      exact hx
theorem Ins.last {E : Int → Int → List Rf} {P : List Ed} {d : Dv} {L : List Ed} (hP : IsEdg E P) (h : Ins P d d.l.length L) (ho : d.ok = true) : IsEdg (stepE E d) L := by
  refine ⟨h.srt, fun e => ?_⟩
  rw [h.mem, List.take_length, hP.2]
  unfold stepE updE
  rw [if_pos ho]
  by_cases q : e.r = d.r ∧ e.c = d.c
  · rw [if_pos q, onceR_mem, inC_is.2 q]
    simp
  · have : inC d e = false := by
      cases hh : inC d e
      · rfl
      · exact absurd (inC_is.1 hh) q
    rw [if_neg q, this]
    simp
set_option maxRecDepth 100000 in
theorem rset_addr (w : World) (R : Nat) (v : Value) (r c : Int) (hc : mayC r c = false) : Calls Tryz.prog 12 #[.pointer (some ⟨R, 0, none⟩), .agg #[.int .i64 r, .int .i64 c], v] w fun e w' => e = .returned (.int .i64 3) ∧ Below w.heap.size w w' := by
  have HC : Hid (∀ W, Calls Tryz.prog 29 #[.agg #[.int .i64 r, .int .i64 c]] W fun e w' => e = .returned (.bool false) ∧ Below W.heap.size W w') := (show _ from fun W => by rw [← hc]; exact rmay_any r c W)
  clear hc
  go_enter Tryz.func12, Tryz.ntmps12
  go_wp2_with (go_at_call 29; refine (HC.out _).mono ?_; rintro e wa ⟨rfl, hba⟩; have hBa : Below w.heap.size w wa := bup (by with_reducible (repeat' first | assumption | exact Below.refl _ _ | refine Below.drew ?_ | refine bdrewN ?_ _ | refine Below.setCell ?_ (by first | exact Nat.le_refl _ | (simp; done) | (simp; omega) | omega) _ | refine Below.alloc ?_ (by first | exact Nat.le_refl _ | (simp; done) | (simp; omega) | omega) _)) hba; clear hba)
  go_ret
  exact ⟨rfl, hBa⟩
set_option maxRecDepth 100000 in
set_option maxHeartbeats 1000000 in
theorem rset_arg (w : World) (R : Nat) (v : Value) (l : List Rf) (r c : Int) (hv : VF w v l) (hc : mayC r c = true) (hl : ∃ f ∈ l, mayF f = false) : Calls Tryz.prog 12 #[.pointer (some ⟨R, 0, none⟩), .agg #[.int .i64 r, .int .i64 c], v] w fun e w' => e = .returned (.int .i64 1) ∧ Below w.heap.size w w' := by
  have HC : Hid (∀ W, Calls Tryz.prog 29 #[.agg #[.int .i64 r, .int .i64 c]] W fun e w' => e = .returned (.bool true) ∧ Below W.heap.size W w') := (show _ from fun W => by rw [← hc]; exact rmay_any r c W)
  obtain ⟨p, n, cap, rfl, hn, hcap, hmx, hp⟩ := hv
  have HE : Hid (∀ i, i < n → ∃ b o x, p = some ⟨b, o, none⟩ ∧ b < w.heap.size ∧ l[i]? = some x ∧ ∀ j u, (Rf.cs x)[j]? = some u → w.cell? ⟨b, o + i * 5 + j, none⟩ = some u) := (show _ from fun i hi => by
    obtain ⟨b, o, rfl, hb, hcl⟩ := hp (by omega)
    obtain ⟨x, hx⟩ : ∃ x, l[i]? = some x := ⟨_, List.getElem?_eq_getElem (by omega)⟩
    exact ⟨b, o, x, rfl, hb, hx, hcl i x hx⟩)
  have HN : Hid (n = l.length) := hn
  have HBad : Hid (∃ f ∈ l, mayF f = false) := hl
  clear hc hp hn hl
  go_enter Tryz.func12, Tryz.ntmps12
  go_wp2_with (go_at_call 29; refine (HC.out _).mono ?_; rintro e wa ⟨rfl, hba⟩; have hBa : Below w.heap.size w wa := bup (by with_reducible (repeat' first | assumption | exact Below.refl _ _ | refine Below.drew ?_ | refine bdrewN ?_ _ | refine Below.setCell ?_ (by first | exact Nat.le_refl _ | (simp; done) | (simp; omega) | omega) _ | refine Below.alloc ?_ (by first | exact Nat.le_refl _ | (simp; done) | (simp; omega) | omega) _)) hba; clear hba)
  go_loopw [8] (fun u w' => ∃ i : Nat, u = .int .i64 i ∧ i ≤ n ∧ Hid (∀ j x, j < i → l[j]? = some x → mayF x = true) ∧ Below w.heap.size w w') (fun u _ => n - (intOf u).toNat)
  case atStart => exact ⟨0, rfl, by omega, (show Hid _ from fun j x hj => absurd hj (Nat.not_lt_zero _)), by with_reducible (repeat' first | assumption | exact Below.refl _ _ | refine Below.drew ?_ | refine bdrewN ?_ _ | refine Below.setCell ?_ (by first | exact Nat.le_refl _ | (simp; done) | (simp; omega) | omega) _ | refine Below.alloc ?_ (by first | exact Nat.le_refl _ | (simp; done) | (simp; omega) | omega) _)⟩
  case round =>
    obtain ⟨i, rfl, hi, HL, hB⟩ := hrel
    have zB := hB.size
    by_cases hlt : i < n
    · have hlt' : (i : Int) < n := by omega
      obtain ⟨b, o, f, rfl, hb, hf, hcl⟩ := HE.out i hlt
      have y0 : wr.cell? ⟨b, o + i * 5, none⟩ = some (.bool f.m) := (hB.cell (p := ⟨b, o + i * 5, none⟩) hb).trans (hcl 0 _ rfl)
      have y1 : wr.cell? ⟨b, o + i * 5 + 1, none⟩ = some (.int .i64 f.t) := (hB.cell (p := ⟨b, o + i * 5 + 1, none⟩) hb).trans (hcl 1 _ rfl)
      have y2 : wr.cell? ⟨b, o + i * 5 + 2, none⟩ = some (.int .i64 f.l) := (hB.cell (p := ⟨b, o + i * 5 + 2, none⟩) hb).trans (hcl 2 _ rfl)
      have y3 : wr.cell? ⟨b, o + i * 5 + 3, none⟩ = some (.int .i64 f.b) := (hB.cell (p := ⟨b, o + i * 5 + 3, none⟩) hb).trans (hcl 3 _ rfl)
      have y4 : wr.cell? ⟨b, o + i * 5 + 4, none⟩ = some (.int .i64 f.q) := (hB.cell (p := ⟨b, o + i * 5 + 4, none⟩) hb).trans (hcl 4 _ rfl)
      have hbr : b < wr.heap.size := by omega
      have HM0 := fun W => rmayf_any f W
      cases hm : mayF f
      · rw [hm] at HM0
        have HM : Hid (∀ W, Calls Tryz.prog 30 #[.agg #[.bool f.m, .int .i64 f.t, .int .i64 f.l, .int .i64 f.b, .int .i64 f.q]] W fun e w' => e = .returned (.bool false) ∧ Below W.heap.size W w') := HM0
        clear HM0 hm hf hcl
        go_wp2_with (go_at_call 30; refine (HM.out _).mono ?_; rintro e wb ⟨rfl, hbb⟩; have hBb : Below w.heap.size w wb := bup (by with_reducible (repeat' first | assumption | exact Below.refl _ _ | refine Below.drew ?_ | refine bdrewN ?_ _ | refine Below.setCell ?_ (by first | exact Nat.le_refl _ | (simp; done) | (simp; omega) | omega) _ | refine Below.alloc ?_ (by first | exact Nat.le_refl _ | (simp; done) | (simp; omega) | omega) _)) hbb; clear hbb)
        go_ret
        exact ⟨rfl, hBb⟩
      · rw [hm] at HM0
        have HM : Hid (∀ W, Calls Tryz.prog 30 #[.agg #[.bool f.m, .int .i64 f.t, .int .i64 f.l, .int .i64 f.b, .int .i64 f.q]] W fun e w' => e = .returned (.bool true) ∧ Below W.heap.size W w') := HM0
        have HL2 : Hid (∀ j x, j < i + 1 → l[j]? = some x → mayF x = true) := (show _ from fun j x hj hx => by
          by_cases e : j = i
          · subst e; rw [hf] at hx; injection hx with hx; subst hx; exact hm
          · exact HL.out j x (by omega) hx)
        clear HM0 hm hf hcl
        go_wp2_with (go_at_call 30; refine (HM.out _).mono ?_; rintro e wb ⟨rfl, hbb⟩; have hBb : Below w.heap.size w wb := bup (by with_reducible (repeat' first | assumption | exact Below.refl _ _ | refine Below.drew ?_ | refine bdrewN ?_ _ | refine Below.setCell ?_ (by first | exact Nat.le_refl _ | (simp; done) | (simp; omega) | omega) _ | refine Below.alloc ?_ (by first | exact Nat.le_refl _ | (simp; done) | (simp; omega) | omega) _)) hbb; clear hbb)
        exact ⟨⟨i + 1, by go_num, by omega, HL2, hBb⟩, by simp [intOf] <;> omega⟩
    · exfalso
      obtain ⟨f, hf, hm⟩ := HBad.out
      obtain ⟨j, hj, rfl⟩ := List.getElem_of_mem hf
      have := HL.out j _ (by have := HN.out; omega) (List.getElem?_eq_getElem hj)
      rw [hm] at this
      cases this
end Go.Proofs.YtgojnijpjfdocaaGreat
