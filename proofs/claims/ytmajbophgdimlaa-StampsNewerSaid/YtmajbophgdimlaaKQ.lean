/- The contract of the clock's others: the stamps that have changed, but one cell's, in the order of their changes. New memory alone is made. -/
import Derived.Test.YtmajbophgdimlaaKA
namespace Go.Proofs.Ytmajbophgdimlaa
open Go.RowKit Go.Sort Go.Shelf
set_option linter.all false
section
variable {α β : Type} {E : TypeId} {sz : Nat}
theorem RowG.map {f : α → β} {cs : β → List Value} {w : World} {base : Nat} {v : Value} {l : List α} : RowG E sz (fun a => cs (f a)) w base v l ↔ RowG E sz cs w base v (l.map f) := by
  unfold RowG flatG
  rw [List.length_map, List.flatMap_map]
end
/-- A stamp's pointer. -/
def ptV (G : Int → Int → Nat) (c : Cl) : Value := .pointer (some ⟨G c.r c.c, 0, none⟩)
abbrev RowP (G : Int → Int → Nat) (w : World) (base : Nat) (v : Value) (l : List Cl) : Prop := RowG 50 1 (fun c => [ptV G c]) w base v l
theorem infoPt : (Try.prog.info? 50).map (fun i => (i.zero, i.size, i.bytes)) = some (some (.pointer none), 1, 8) := by kernel_rfl
theorem sub_of {P : Cl → Prop} : ∀ {l : List Cl}, (∀ c ∈ l, P c) → ∃ m : List {c : Cl // P c}, m.map Subtype.val = l
  | [], _ => ⟨[], rfl⟩
  | c :: l, h => by
    obtain ⟨m, e⟩ := sub_of (l := l) (fun d hd => h d (List.mem_cons_of_mem _ hd))
    exact ⟨⟨c, h c (List.mem_cons_self ..)⟩ :: m, by rw [List.map_cons, e]⟩
theorem sort_pt {G : Int → Int → Nat} {A : Cl → Int} {P : Cl → Prop} (hA : ∀ c d, P c → P d → A c = A d → c = d) {w : World} {base : Nat} {v : Value} {l : List Cl} (hv : RowP G w base v l) (hl : l.length < 4611686018427387904) (hP : ∀ c ∈ l, P c) (hn : l.Nodup) (h0 : l = [] → v = .slice none 0 0)
    (hm : ∀ c, P c → G c.r c.c < base ∧ G c.r c.c < w.heap.size ∧ w.cell? ⟨G c.r c.c, 0, none⟩ = some (.int .i64 (A c))) :
    Calls Try.prog 22 #[v, .func (.func 23) #[] #[]] w fun e w' => e = .returned (.tuple #[]) ∧ (∃ l', RowP G w' base v l' ∧ (∀ c, c ∈ l' ↔ c ∈ l) ∧ l'.length = l.length ∧ l'.Pairwise (fun c d => A c < A d)) ∧ Mut (fun b => v.ownBlock = some b) w w' := by
  cases l with
  | nil =>
    rw [h0 rfl]
    have hcon := AnyF.slices_SortFunc_none { Try.sortP with } none 0 (.func (.func 23) #[] #[]) w
    change Calls Try.prog 22 _ _ _ at hcon
    refine hcon.mono ?_
    rintro e w' ⟨rfl, rfl⟩
    exact ⟨rfl, ⟨[], RowG.nil _, fun c => Iff.rfl, rfl, List.Pairwise.nil⟩, Mut.refl _ _⟩
  | cons c0 l0 =>
    obtain ⟨m, hmap⟩ := sub_of hP
    have hi0 : Inhabited {c : Cl // P c} := ⟨⟨c0, hP c0 (List.mem_cons_self ..)⟩⟩
    have hlen : m.length = (c0 :: l0).length := by rw [← hmap, List.length_map]
    have hrow : RowG 50 1 (fun x : {c : Cl // P c} => [ptV G x.1]) w base v m := (RowG.map (f := Subtype.val) (cs := fun c => [ptV G c])).2 (by rw [hmap]; exact hv)
    have hO : SWO (ltOf (fun x y : {c : Cl // P c} => cmpI (A x.1) (A y.1))) := by
      have hlt : ∀ x y : {c : Cl // P c}, ltOf (fun x y : {c : Cl // P c} => cmpI (A x.1) (A y.1)) x y = true ↔ A x.1 < A y.1 := fun x y => by unfold ltOf; rw [decide_eq_true_eq, cmpI_neg]
      refine ⟨fun x => ?_, fun x y z h1 h2 => ?_, fun x y z h1 h2 => ?_⟩
      · cases h : ltOf (fun x y : {c : Cl // P c} => cmpI (A x.1) (A y.1)) x x
        · rfl
        · rw [hlt] at h; omega
      · rw [hlt] at *; omega
      · cases h : ltOf (fun x y : {c : Cl // P c} => cmpI (A x.1) (A y.1)) x z
        · rfl
        · have g1 : ¬ (ltOf (fun x y : {c : Cl // P c} => cmpI (A x.1) (A y.1)) x y = true) := by rw [h1]; decide
          have g2 : ¬ (ltOf (fun x y : {c : Cl // P c} => cmpI (A x.1) (A y.1)) y z = true) := by rw [h2]; decide
          rw [hlt] at h g1 g2
          omega
    have hT : ∀ x y : {c : Cl // P c}, ltOf (fun x y : {c : Cl // P c} => cmpI (A x.1) (A y.1)) x y = false → ltOf (fun x y : {c : Cl // P c} => cmpI (A x.1) (A y.1)) y x = false → x = y := fun x y h1 h2 => by
      unfold ltOf at h1 h2
      rw [decide_eq_false_iff_not, cmpI_neg] at h1 h2
      exact Subtype.ext (hA _ _ x.2 y.2 (by omega))
    have hcon := sort_one hi0 Try.sortP (fun x : {c : Cl // P c} => ptV G x.1) (fun x => rfl) (fun x y => cmpI (A x.1) (A y.1)) hO hT 23 (enters_of Try.func23 (by kernel_rfl) rfl) hrow (by rw [hlen]; exact hl) (fun x y W hW hk => by
      obtain ⟨x1, x2, x3⟩ := hm _ x.2
      obtain ⟨y1, y2, y3⟩ := hm _ y.2
      have hne : ∀ k, k < base → v.ownBlock ≠ some k := fun k q r => by have := (hv.lt k r).1; omega
      exact koth1_any _ _ _ _ W (by omega) (by omega) ((World.cell?_of_block (a := ⟨G x.1.r x.1.c, 0, none⟩) (hk _ x2 (hne _ x1))).trans x3) ((World.cell?_of_block (a := ⟨G y.1.r y.1.c, 0, none⟩) (hk _ y2 (hne _ y1))).trans y3))
    change Calls Try.prog 22 _ _ _ at hcon
    refine hcon.mono ?_
    rintro e w' ⟨rfl, r1, r2⟩
    refine ⟨rfl, ⟨(srtL (fun x y : {c : Cl // P c} => cmpI (A x.1) (A y.1)) m).map Subtype.val, (RowG.map (f := Subtype.val) (cs := fun c => [ptV G c])).1 r1, fun c => ?_, by rw [List.length_map, srtL_len, hlen], ?_⟩, r2⟩
    · rw [← hmap, List.mem_map, List.mem_map]
      constructor
      · rintro ⟨x, q1, q2⟩; exact ⟨x, (srtL_perm _ _).mem_iff.1 q1, q2⟩
      · rintro ⟨x, q1, q2⟩; exact ⟨x, (srtL_perm _ _).mem_iff.2 q1, q2⟩
    · have hnd : (srtL (fun x y : {c : Cl // P c} => cmpI (A x.1) (A y.1)) m).Nodup := (srtL_perm _ _).nodup_iff.2 (by
        have q := hn
        rw [← hmap] at q
        exact List.Pairwise.of_map Subtype.val (fun a b h e => h (congrArg _ e)) q)
      rw [List.pairwise_map]
      refine (List.Pairwise.and (srtL_srt hO m) hnd).imp (fun {x y} h => ?_)
      have h1 : ¬ A y.1 < A x.1 := fun q => h.1 ((cmpI_neg _ _).2 q)
      have h2 : A x.1 ≠ A y.1 := fun q => h.2 (Subtype.ext (hA _ _ x.2 y.2 q))
      omega
/-- The cells told so far that have changed, but one. -/
def othL (S : St) (x y : Int) (K : List Cl) : List Cl := K.filter fun c => decide (¬ (c.r = x ∧ c.c = y) ∧ 0 < chg S c.r c.c)
theorem othL_mem {S : St} {x y : Int} {K : List Cl} {c : Cl} : c ∈ othL S x y K ↔ c ∈ K ∧ ¬ (c.r = x ∧ c.c = y) ∧ 0 < chg S c.r c.c := by
  unfold othL
  rw [List.mem_filter, decide_eq_true_eq]
theorem othL_no {S : St} {x y a b : Int} {K : List Cl} (h : ¬ (¬ (a = x ∧ b = y) ∧ 0 < chg S a b)) : othL S x y (K ++ [⟨a, b⟩]) = othL S x y K := by
  unfold othL
  rw [List.filter_append]
  simp only [List.filter_cons, List.filter_nil, decide_eq_true_eq]
  rw [if_neg h, List.append_nil]
theorem othL_yes {S : St} {x y a b : Int} {K : List Cl} (h1 : ¬ (a = x ∧ b = y)) (h2 : 0 < chg S a b) : othL S x y (K ++ [⟨a, b⟩]) = othL S x y K ++ [⟨a, b⟩] := by
  unfold othL
  rw [List.filter_append]
  simp only [List.filter_cons, List.filter_nil, decide_eq_true_eq]
  rw [if_pos ⟨h1, h2⟩]
/-- All others that have changed, in their order. -/
def IsOth (S : St) (x y : Int) (l : List Cl) : Prop := (∀ c, c ∈ l ↔ (¬ (c.r = x ∧ c.c = y) ∧ 0 < chg S c.r c.c)) ∧ l.Pairwise (fun c d => chg S c.r c.c < chg S d.r d.c)
def ApP (G : Int → Int → Nat) (w : World) : Prop := ∀ W (v : Value) (L : List Cl) vb (x : Cl), RowP G W w.heap.size v L → W.heap[vb]? = some (.cells #[ptV G x] 50 (0, 0)) → w.heap.size ≤ W.heap.size → (L.length + 1) * 8 ≤ 140737488355328 → ∀ ty, ∃ v' w', (Builtin.append_ #[52, 52] ty #[v, .slice (some ⟨vb, 0, none⟩) 1 1]).run Try.prog W = .ok v' w' ∧ RowP G w' w.heap.size v' (L ++ [x]) ∧ Below w.heap.size W w' ∧ (v'.ownBlock = v.ownBlock ∨ v'.ownBlock = some W.heap.size) ∧ Mut (fun b => v.ownBlock = some b) W w'
theorem apP (G : Int → Int → Nat) (w : World) : ApP G w := by
  obtain ⟨i0, hi0, hz0, hzs, hzb⟩ := info_parts infoPt
  exact fun W v L vb x r1 r2 r3 r4 ty => app_one (cs := fun c => [ptV G c]) Try.underlying52 hi0 hz0 hzs hzb rfl (by omega) (fun _ => rfl) (fun x u hu => by rw [List.mem_singleton.1 hu]; rfl) r1 r2 r3 r4 (by omega) ty
set_option maxRecDepth 100000 in
set_option maxHeartbeats 4000000 in
theorem koth_any (w : World) (F : Nat → Prop) (N bm : Nat) (G : Int → Int → Nat) (most last turns : Int) (S : St) (n M : Nat) (x y : Int) (h : Ck F w N bm G most last turns S n) (hM : M ≤ 4000000000000) (hf : ∀ K : List Cl, K.Nodup → (∀ k ∈ K, S k.r k.c ≠ none) → K.length ≤ M)
    (hD : ∀ c d : Cl, 0 < chg S c.r c.c → chg S c.r c.c = chg S d.r d.c → c = d) : Calls Try.prog 20 #[.pointer (some ⟨N, 0, none⟩), .agg #[.int .i64 x, .int .i64 y]] w fun e w' => ∃ v, e = .returned v ∧ ∃ l, RowP G w' w.heap.size v l ∧ IsOth S x y l ∧ l.length ≤ M ∧ Below w.heap.size w w' := by
  have mixed : Try.prog.follows .mixedOrders = true := by kernel_rfl
  have oN := h.own
  have lN := oN.lt
  have a3 : w.cell? ⟨N, 3, none⟩ = some (.map (some bm)) := oN.cell 3
  have lB := h.map.lt
  have HAP : Hid (ApP G w) := (show ApP G w from apP G w)
  have HSt : Hid (∀ a b p, S a b = some p → G a b < w.heap.size ∧ w.cell? ⟨G a b, 0, none⟩ = some (.int .i64 p.1)) := (show _ from fun a b p e => ⟨(h.st a b p e).2.lt, (h.st a b p e).2.cell 0⟩)
  have HMp : Hid (MapF w bm n (vf S G)) := h.map
  have hne : ∀ a b, 0 < chg S a b → ∃ p, S a b = some p ∧ p.1 = chg S a b := fun a b q => by
    unfold chg at *
    cases e : S a b with
    | none => rw [e] at q; cases q
    | some p => exact ⟨p, rfl, by simp⟩
  have HSo : Hid (∀ W v K, RowP G W w.heap.size v (othL S x y K) → (othL S x y K).length ≤ M → (K.Nodup ∧ ∀ a b, S a b ≠ none → (⟨a, b⟩ : Cl) ∈ K) → (othL S x y K = [] → v = .slice none 0 0) → Below w.heap.size w W → Calls Try.prog 22 #[v, .func (.func 23) #[] #[]] W fun e w' => e = .returned (.tuple #[]) ∧ ∃ l', RowP G w' w.heap.size v l' ∧ (IsOth S x y l' ∧ l'.length ≤ M) ∧ Below w.heap.size w w') := (show _ from fun W v K q1 q2 q3 q4 q5 => (sort_pt (A := fun c => chg S c.r c.c) (P := fun c => 0 < chg S c.r c.c) (fun c d i1 i2 i3 => hD c d i1 i3) q1 (by omega) (fun c hc => (othL_mem.1 hc).2.2) (q3.1.filter _) q4 (fun c hc => by
    obtain ⟨p, e1, e2⟩ := hne _ _ hc
    obtain ⟨s1, s2⟩ := HSt.out _ _ _ e1
    rw [← e2]
    exact ⟨s1, Nat.lt_of_lt_of_le s1 q5.size, (q5.cell (p := ⟨G c.r c.c, 0, none⟩) s1).trans s2⟩)).mono (by
    rintro e w' ⟨rfl, ⟨l', k1, k2, k3, k4⟩, k5⟩
    refine ⟨rfl, l', k1, ⟨⟨fun c => ?_, k4⟩, by omega⟩, q5.trans (k5.to_below q5.size (fun k hk => (RowG.lt q1 k hk).1))⟩
    rw [k2, othL_mem]
    refine ⟨fun q => q.2, fun q => ⟨?_, q⟩⟩
    obtain ⟨p, e1, _⟩ := hne _ _ q.2
    exact q3.2 c.r c.c (by rw [e1]; simp)))
  have HFew : Hid (∀ K : List Cl, K.Nodup → (∀ k ∈ K, S k.r k.c ≠ none) → (othL S x y K).length ≤ M) := (show _ from fun K h1 h2 => Nat.le_trans (List.length_filter_le _ _) (hf K h1 h2))
  have hvf : ∀ a b, vf S G a b ≠ nilS → ∃ p, S a b = some p := fun a b q => by
    cases e : S a b with
    | none => exact absurd (vf_none e) q
    | some p => exact ⟨p, rfl⟩
  have HI : Hid (∀ a b, S a b ≠ none → I64 a ∧ I64 b ∧ vf S G a b ≠ nilS) := (show _ from fun a b q => by
    cases e : S a b with
    | none => exact absurd e q
    | some p => exact ⟨(h.st a b p e).1.1, (h.st a b p e).1.2, by rw [vf_some e]; simp [nilS]⟩)
  have hsz : (w.alloc (.cells #[.int .i64 x, .int .i64 y] 30)).heap.size = w.heap.size + 1 := by simp
  clear h hf hD hne
  go_enter Try.func20, Try.ntmps20
  go_wp2_with (at_range; refine wpList_rangeF rfl _ _ _ rfl rfl (HMp.out.keep (by with_reducible (repeat' first | assumption | exact Below.refl _ _ | refine Below.drew ?_ | refine bdrewN ?_ _ | refine Below.setCell ?_ (by first | exact Nat.le_refl _ | (simp; done) | (simp; omega) | omega) _ | refine Below.alloc ?_ (by first | exact Nat.le_refl _ | (simp; done) | (simp; omega) | omega) _))) Try.underlying46 ?_; intro w0 cnt0 hrg0 hb0 hs0; rw [hsz]; have HG0 : Hid (RangeF w0 bm (w.heap.size + 1) n (vf S G) [] cnt0) := (show RangeF _ _ _ _ _ _ _ from by simpa using hrg0); have hB0 : Below w.heap.size w w0 := bup (by with_reducible (repeat' first | assumption | exact Below.refl _ _ | refine Below.drew ?_ | refine bdrewN ?_ _ | refine Below.setCell ?_ (by first | exact Nat.le_refl _ | (simp; done) | (simp; omega) | omega) _ | refine Below.alloc ?_ (by first | exact Nat.le_refl _ | (simp; done) | (simp; omega) | omega) _)) hb0; have oC0 : Own w0 w.heap.size #[.int .i64 x, .int .i64 y] := Own.keep (by with_reducible (repeat' first | assumption | refine Own.drew ?_ | refine Own.drewN ?_ _ | (refine Own.at ?_; first | rfl | (simp; done)) | refine Own.past ?_ _)) hb0; clear hrg0 hb0)
  go_frame
  go_loopw [5] (fun u5 w' => ∃ (K : List Cl) (cnt : Nat), Hid (RangeF w' bm (w.heap.size + 1) n (vf S G) K cnt) ∧ Hid (RowP G w' w.heap.size u5 (othL S x y K)) ∧ Below w.heap.size w w' ∧ Own w' w.heap.size #[.int .i64 x, .int .i64 y] ∧ Hid (∀ b, u5.ownBlock = some b → b ≠ w.heap.size + 1 ∧ b ≠ w.heap.size) ∧ Hid (othL S x y K = [] → u5 = .slice none 0 0)) (fun _ w' => w'.rangeLeft bm (w.heap.size + 1))
  case atStart => exact ⟨[], cnt0, by simpa using HG0, (show RowP _ _ _ _ _ from RowG.nil _), hB0, oC0, (show Hid _ from fun b q => by cases q), (show Hid _ from fun _ => rfl)⟩
  case round =>
    clear HG0 hB0 oC0 hs0
    obtain ⟨K, cnt, HG, HR, hB, oC, hne, HNn⟩ := hrel
    go_wp2_with (at_next; refine wpList_nextF rfl _ rfl rfl HG.out ?_ ?_)
    · intro hdone
      have HK : Hid (K.Nodup ∧ ∀ a b, S a b ≠ none → (⟨a, b⟩ : Cl) ∈ K) := (show _ from ⟨HG.out.nodup, fun a b q => by obtain ⟨h1, h2, h3⟩ := HI.out a b q; exact hdone a b h1 h2 h3⟩)
      have HLn : Hid ((othL S x y K).length ≤ M) := (show _ ≤ _ from HFew.out K HG.out.nodup (fun k hk => by
        have q := (HG.out.told k hk).1
        intro e
        exact q (vf_none e)))
      clear hdone
      go_wp2_with (go_loud (go_at_call 22; refine (HSo.out _ _ _ (HR.out.keep (by with_reducible (repeat' first | assumption | exact Below.refl _ _ | refine Below.drew ?_ | refine bdrewN ?_ _ | refine Below.setCell ?_ (by first | exact Nat.le_refl _ | (simp; done) | (simp; omega) | omega) _ | refine Below.alloc ?_ (by first | exact Nat.le_refl _ | (simp; done) | (simp; omega) | omega) _))) HLn.out HK.out HNn.out (by with_reducible (repeat' first | assumption | exact Below.refl _ _ | refine Below.drew ?_ | refine bdrewN ?_ _ | refine Below.setCell ?_ (by first | exact Nat.le_refl _ | (simp; done) | (simp; omega) | omega) _ | refine Below.alloc ?_ (by first | exact Nat.le_refl _ | (simp; done) | (simp; omega) | omega) _))).mono ?_; rintro e wa ⟨rfl, l', q1, q2, q3⟩; have HRa : Hid (RowP G wa w.heap.size u5 l') := q1; have HIa : Hid (IsOth S x y l' ∧ l'.length ≤ M) := q2; have hBa : Below w.heap.size w wa := q3; clear q1 q2 q3))
      go_ret
      exact ⟨_, rfl, _, HRa.out, HIa.out.1, HIa.out.2, hBa⟩
    · intro a b w1 cnt1 hx hy hnK hnl hrg1 hlt hmu hs1 hen
      have hle := HG.out.left_eq
      have hB1 : Below w.heap.size w w1 := hB.trans (hmu.to_below hB.size (fun k hk => by rw [hk]; omega))
      have HG1 : Hid (RangeF w1 bm (w.heap.size + 1) n (vf S G) (K ++ [⟨a, b⟩]) cnt1) := hrg1
      have HR1 : Hid (RowP G w1 w.heap.size u5 (othL S x y K)) := (show RowP _ _ _ _ _ from HR.out.mut hmu (fun g q => (hne.out g q).1))
      have oC1 : Own w1 w.heap.size #[.int .i64 x, .int .i64 y] := oC.mut hmu (fun q => by omega)
      obtain ⟨p, hp⟩ := hvf a b hnl
      have hpv := vf_some (G := G) hp
      obtain ⟨s1, s2⟩ := HSt.out a b p hp
      have HP : Hid (S a b = some p) := hp
      have hch : chg S a b = p.1 := by unfold chg; rw [hp]
      have HCh : Hid (chg S a b = p.1) := hch
      have HFw : Hid ((othL S x y (K ++ [⟨a, b⟩])).length ≤ M) := (show _ ≤ _ from HFew.out _ HG1.out.nodup (fun k hk => by
        have q := (HG1.out.told k hk).1
        intro e
        exact q (vf_none e)))
      rw [hpv] at hen ⊢
      have g0 : w1.cell? ⟨G a b, 0, none⟩ = some (.int .i64 p.1) := (hB1.cell (p := ⟨G a b, 0, none⟩) s1).trans s2
      have zB1 := hB1.size
      have lG1 : G a b < w1.heap.size := by omega
      have c0 : w1.cell? ⟨w.heap.size, 0, none⟩ = some (.int .i64 x) := oC1.cell 0
      have c1 : w1.cell? ⟨w.heap.size, 1, none⟩ = some (.int .i64 y) := oC1.cell 1
      have lC1 := oC1.lt
      clear hrg1 HR HG hmu hnK hnl hp hch hpv s1 s2 hB oC hx hy hs1
      obtain ⟨pa, hpa⟩ : ∃ pa, pa = p.1 := ⟨_, rfl⟩
      rw [← hpa] at g0 HCh
      by_cases he : a = x ∧ b = y
      · have HN : Hid (othL S x y (K ++ [⟨a, b⟩]) = othL S x y K) := (show _ = _ from othL_no (fun q => q.1 he))
        obtain ⟨e1, e2⟩ := he
        replace e1 := e1.symm
        replace e2 := e2.symm
        subst e1
        subst e2
        go_wp2
        first | exact ⟨⟨K ++ [⟨x, y⟩], cnt1, (show RangeF _ _ _ _ _ _ _ from HG1.out.keep (by with_reducible (repeat' first | assumption | exact Below.refl _ _ | refine Below.drew ?_ | refine bdrewN ?_ _ | refine Below.setCell ?_ (by first | exact Nat.le_refl _ | (simp; done) | (simp; omega) | omega) _ | refine Below.alloc ?_ (by first | exact Nat.le_refl _ | (simp; done) | (simp; omega) | omega) _))), (show RowP _ _ _ _ _ from by rw [HN.out]; exact HR1.out.keep (by with_reducible (repeat' first | assumption | exact Below.refl _ _ | refine Below.drew ?_ | refine bdrewN ?_ _ | refine Below.setCell ?_ (by first | exact Nat.le_refl _ | (simp; done) | (simp; omega) | omega) _ | refine Below.alloc ?_ (by first | exact Nat.le_refl _ | (simp; done) | (simp; omega) | omega) _))), (by with_reducible (repeat' first | assumption | exact Below.refl _ _ | refine Below.drew ?_ | refine bdrewN ?_ _ | refine Below.setCell ?_ (by first | exact Nat.le_refl _ | (simp; done) | (simp; omega) | omega) _ | refine Below.alloc ?_ (by first | exact Nat.le_refl _ | (simp; done) | (simp; omega) | omega) _)), (by with_reducible (repeat' first | assumption | refine Own.drew ?_ | refine Own.drewN ?_ _ | (refine Own.at ?_; first | rfl | (simp; done)) | refine Own.past ?_ _)), hne, (show Hid (_ → _) from fun q => HNn.out (by rw [← HN.out]; exact q))⟩, by first | (rw [RangeF.left_eq (HG1.out.keep (bal _ _)), hle]; exact hlt) | (rw [RangeF.left_eq (HG1.out.keep (bal _ _))]; exact hlt) | exact hlt⟩ | exact ⟨⟨K ++ [⟨x, y⟩], ⟨cnt1, (show RangeF _ _ _ _ _ _ _ from HG1.out.keep (by with_reducible (repeat' first | assumption | exact Below.refl _ _ | refine Below.drew ?_ | refine bdrewN ?_ _ | refine Below.setCell ?_ (by first | exact Nat.le_refl _ | (simp; done) | (simp; omega) | omega) _ | refine Below.alloc ?_ (by first | exact Nat.le_refl _ | (simp; done) | (simp; omega) | omega) _)))⟩, (show RowP _ _ _ _ _ from by rw [HN.out]; exact HR1.out.keep (by with_reducible (repeat' first | assumption | exact Below.refl _ _ | refine Below.drew ?_ | refine bdrewN ?_ _ | refine Below.setCell ?_ (by first | exact Nat.le_refl _ | (simp; done) | (simp; omega) | omega) _ | refine Below.alloc ?_ (by first | exact Nat.le_refl _ | (simp; done) | (simp; omega) | omega) _))), (by with_reducible (repeat' first | assumption | exact Below.refl _ _ | refine Below.drew ?_ | refine bdrewN ?_ _ | refine Below.setCell ?_ (by first | exact Nat.le_refl _ | (simp; done) | (simp; omega) | omega) _ | refine Below.alloc ?_ (by first | exact Nat.le_refl _ | (simp; done) | (simp; omega) | omega) _)), (by with_reducible (repeat' first | assumption | refine Own.drew ?_ | refine Own.drewN ?_ _ | (refine Own.at ?_; first | rfl | (simp; done)) | refine Own.past ?_ _)), hne, (show Hid (_ → _) from fun q => HNn.out (by rw [← HN.out]; exact q))⟩, by first | (rw [RangeF.left_eq (HG1.out.keep (bal _ _)), hle]; exact hlt) | (rw [RangeF.left_eq (HG1.out.keep (bal _ _))]; exact hlt) | exact hlt⟩ | exact ⟨⟨_, _, _, _, _, _, _, _, _, _, _, _, _, _, _, _, _, _, _, _, _, _, ⟨K ++ [⟨x, y⟩], cnt1, (show RangeF _ _ _ _ _ _ _ from HG1.out.keep (by with_reducible (repeat' first | assumption | exact Below.refl _ _ | refine Below.drew ?_ | refine bdrewN ?_ _ | refine Below.setCell ?_ (by first | exact Nat.le_refl _ | (simp; done) | (simp; omega) | omega) _ | refine Below.alloc ?_ (by first | exact Nat.le_refl _ | (simp; done) | (simp; omega) | omega) _))), (show RowP _ _ _ _ _ from by rw [HN.out]; exact HR1.out.keep (by with_reducible (repeat' first | assumption | exact Below.refl _ _ | refine Below.drew ?_ | refine bdrewN ?_ _ | refine Below.setCell ?_ (by first | exact Nat.le_refl _ | (simp; done) | (simp; omega) | omega) _ | refine Below.alloc ?_ (by first | exact Nat.le_refl _ | (simp; done) | (simp; omega) | omega) _))), (by with_reducible (repeat' first | assumption | exact Below.refl _ _ | refine Below.drew ?_ | refine bdrewN ?_ _ | refine Below.setCell ?_ (by first | exact Nat.le_refl _ | (simp; done) | (simp; omega) | omega) _ | refine Below.alloc ?_ (by first | exact Nat.le_refl _ | (simp; done) | (simp; omega) | omega) _)), (by with_reducible (repeat' first | assumption | refine Own.drew ?_ | refine Own.drewN ?_ _ | (refine Own.at ?_; first | rfl | (simp; done)) | refine Own.past ?_ _)), hne, (show Hid (_ → _) from fun q => HNn.out (by rw [← HN.out]; exact q))⟩, rfl⟩, by first | (rw [RangeF.left_eq (HG1.out.keep (bal _ _)), hle]; exact hlt) | (rw [RangeF.left_eq (HG1.out.keep (bal _ _))]; exact hlt) | exact hlt⟩
      · have HE : Hid (¬ (a = x ∧ b = y)) := he
        have hcases : (a = x ∧ ¬ b = y) ∨ ¬ a = x := by
          by_cases ha : a = x
          · exact .inl ⟨ha, fun q => he ⟨ha, q⟩⟩
          · exact .inr ha
        clear he
        by_cases hc : 0 < pa
        · have HN : Hid (othL S x y (K ++ [⟨a, b⟩]) = othL S x y K ++ [⟨a, b⟩]) := (show _ = _ from othL_yes HE.out (by rw [HCh.out]; exact hc))
          have HLk : Hid ((othL S x y K).length + 1 ≤ 4000000000001) := (show _ ≤ _ from by have q := HFw.out; rw [HN.out, List.length_append] at q; simp at q; omega)
          rcases hcases with ⟨ha, hb⟩ | ha
          · replace ha := ha.symm
            subst ha
            go_wp2_with (go_loud (at_builtin; refine wpList_appx rfl _ _ _ _ rfl _ (.slice (some ⟨w1.heap.size + 1, 0, none⟩) 1 1) rfl rfl (HAP.out _ _ _ (w1.heap.size + 1) ⟨x, b⟩ (RowG.keep HR1.out (by with_reducible (repeat' first | assumption | exact Below.refl _ _ | refine Below.drew ?_ | refine bdrewN ?_ _ | refine Below.setCell ?_ (by first | exact Nat.le_refl _ | (simp; done) | (simp; omega) | omega) _ | refine Below.alloc ?_ (by first | exact Nat.le_refl _ | (simp; done) | (simp; omega) | omega) _))) (heap_at (by simp)) (by simp; omega) (by have := HLk.out; omega)) (fun v' w3 hq => ?_); obtain ⟨r1, r2, r3, r4⟩ := hq; have R1 : Hid _ := r1; have R2 : Below w.heap.size w w3 := (show Below w.heap.size w _ from by with_reducible (repeat' first | assumption | exact Below.refl _ _ | refine Below.drew ?_ | refine bdrewN ?_ _ | refine Below.setCell ?_ (by first | exact Nat.le_refl _ | (simp; done) | (simp; omega) | omega) _ | refine Below.alloc ?_ (by first | exact Nat.le_refl _ | (simp; done) | (simp; omega) | omega) _)).trans r2; have R3 : Hid (∀ g, v'.ownBlock = some g → g ≠ w.heap.size + 1 ∧ g ≠ w.heap.size) := (show ∀ g, v'.ownBlock = some g → g ≠ w.heap.size + 1 ∧ g ≠ w.heap.size from fun g q => by rcases r3 with s | s; exact hne.out g (s.symm.trans q); rw [s] at q; injection q with q; simp at q; omega); have oC3 : Own w3 w.heap.size #[.int .i64 x, .int .i64 y] := Own.mut (by with_reducible (repeat' first | assumption | refine Own.drew ?_ | refine Own.drewN ?_ _ | (refine Own.at ?_; first | rfl | (simp; done)) | refine Own.past ?_ _)) r4 (fun q => (hne.out _ q).2 rfl); have HG3 : Hid (RangeF w3 bm (w.heap.size + 1) n (vf S G) (K ++ [⟨x, b⟩]) cnt1) := (show RangeF _ _ _ _ _ _ _ from (HG1.out.keep (by with_reducible (repeat' first | assumption | exact Below.refl _ _ | refine Below.drew ?_ | refine bdrewN ?_ _ | refine Below.setCell ?_ (by first | exact Nat.le_refl _ | (simp; done) | (simp; omega) | omega) _ | refine Below.alloc ?_ (by first | exact Nat.le_refl _ | (simp; done) | (simp; omega) | omega) _))).mut r4 (fun q => by have := (HR1.out.lt _ q).1; omega) (fun q => (hne.out _ q).1 rfl)); clear r1 r2 r3 r4))
            all_goals (first | exact ⟨⟨K ++ [⟨x, b⟩], cnt1, HG3, (show RowP _ _ _ _ _ from by rw [HN.out]; exact R1.out), R2, oC3, R3, (show Hid (_ → _) from fun q => by rw [HN.out] at q; simp at q)⟩, by first | (rw [RangeF.left_eq (HG3.out), hle]; exact hlt) | (rw [RangeF.left_eq (HG3.out)]; exact hlt) | exact hlt⟩ | exact ⟨⟨K ++ [⟨x, b⟩], ⟨cnt1, HG3⟩, (show RowP _ _ _ _ _ from by rw [HN.out]; exact R1.out), R2, oC3, R3, (show Hid (_ → _) from fun q => by rw [HN.out] at q; simp at q)⟩, by first | (rw [RangeF.left_eq (HG3.out), hle]; exact hlt) | (rw [RangeF.left_eq (HG3.out)]; exact hlt) | exact hlt⟩ | exact ⟨⟨_, _, _, _, _, _, _, _, _, _, _, _, _, _, _, _, _, _, _, _, _, _, ⟨K ++ [⟨x, b⟩], cnt1, HG3, (show RowP _ _ _ _ _ from by rw [HN.out]; exact R1.out), R2, oC3, R3, (show Hid (_ → _) from fun q => by rw [HN.out] at q; simp at q)⟩, rfl⟩, by first | (rw [RangeF.left_eq (HG3.out), hle]; exact hlt) | (rw [RangeF.left_eq (HG3.out)]; exact hlt) | exact hlt⟩)
          · go_wp2_with (go_loud (at_builtin; refine wpList_appx rfl _ _ _ _ rfl _ (.slice (some ⟨w1.heap.size + 1, 0, none⟩) 1 1) rfl rfl (HAP.out _ _ _ (w1.heap.size + 1) ⟨a, b⟩ (RowG.keep HR1.out (by with_reducible (repeat' first | assumption | exact Below.refl _ _ | refine Below.drew ?_ | refine bdrewN ?_ _ | refine Below.setCell ?_ (by first | exact Nat.le_refl _ | (simp; done) | (simp; omega) | omega) _ | refine Below.alloc ?_ (by first | exact Nat.le_refl _ | (simp; done) | (simp; omega) | omega) _))) (heap_at (by simp)) (by simp; omega) (by have := HLk.out; omega)) (fun v' w3 hq => ?_); obtain ⟨r1, r2, r3, r4⟩ := hq; have R1 : Hid _ := r1; have R2 : Below w.heap.size w w3 := (show Below w.heap.size w _ from by with_reducible (repeat' first | assumption | exact Below.refl _ _ | refine Below.drew ?_ | refine bdrewN ?_ _ | refine Below.setCell ?_ (by first | exact Nat.le_refl _ | (simp; done) | (simp; omega) | omega) _ | refine Below.alloc ?_ (by first | exact Nat.le_refl _ | (simp; done) | (simp; omega) | omega) _)).trans r2; have R3 : Hid (∀ g, v'.ownBlock = some g → g ≠ w.heap.size + 1 ∧ g ≠ w.heap.size) := (show ∀ g, v'.ownBlock = some g → g ≠ w.heap.size + 1 ∧ g ≠ w.heap.size from fun g q => by rcases r3 with s | s; exact hne.out g (s.symm.trans q); rw [s] at q; injection q with q; simp at q; omega); have oC3 : Own w3 w.heap.size #[.int .i64 x, .int .i64 y] := Own.mut (by with_reducible (repeat' first | assumption | refine Own.drew ?_ | refine Own.drewN ?_ _ | (refine Own.at ?_; first | rfl | (simp; done)) | refine Own.past ?_ _)) r4 (fun q => (hne.out _ q).2 rfl); have HG3 : Hid (RangeF w3 bm (w.heap.size + 1) n (vf S G) (K ++ [⟨a, b⟩]) cnt1) := (show RangeF _ _ _ _ _ _ _ from (HG1.out.keep (by with_reducible (repeat' first | assumption | exact Below.refl _ _ | refine Below.drew ?_ | refine bdrewN ?_ _ | refine Below.setCell ?_ (by first | exact Nat.le_refl _ | (simp; done) | (simp; omega) | omega) _ | refine Below.alloc ?_ (by first | exact Nat.le_refl _ | (simp; done) | (simp; omega) | omega) _))).mut r4 (fun q => by have := (HR1.out.lt _ q).1; omega) (fun q => (hne.out _ q).1 rfl)); clear r1 r2 r3 r4))
            all_goals (first | exact ⟨⟨K ++ [⟨a, b⟩], cnt1, HG3, (show RowP _ _ _ _ _ from by rw [HN.out]; exact R1.out), R2, oC3, R3, (show Hid (_ → _) from fun q => by rw [HN.out] at q; simp at q)⟩, by first | (rw [RangeF.left_eq (HG3.out), hle]; exact hlt) | (rw [RangeF.left_eq (HG3.out)]; exact hlt) | exact hlt⟩ | exact ⟨⟨K ++ [⟨a, b⟩], ⟨cnt1, HG3⟩, (show RowP _ _ _ _ _ from by rw [HN.out]; exact R1.out), R2, oC3, R3, (show Hid (_ → _) from fun q => by rw [HN.out] at q; simp at q)⟩, by first | (rw [RangeF.left_eq (HG3.out), hle]; exact hlt) | (rw [RangeF.left_eq (HG3.out)]; exact hlt) | exact hlt⟩ | exact ⟨⟨_, _, _, _, _, _, _, _, _, _, _, _, _, _, _, _, _, _, _, _, _, _, ⟨K ++ [⟨a, b⟩], cnt1, HG3, (show RowP _ _ _ _ _ from by rw [HN.out]; exact R1.out), R2, oC3, R3, (show Hid (_ → _) from fun q => by rw [HN.out] at q; simp at q)⟩, rfl⟩, by first | (rw [RangeF.left_eq (HG3.out), hle]; exact hlt) | (rw [RangeF.left_eq (HG3.out)]; exact hlt) | exact hlt⟩)
        · have HN : Hid (othL S x y (K ++ [⟨a, b⟩]) = othL S x y K) := (show _ = _ from othL_no (fun q => hc (by rw [← HCh.out]; exact q.2)))
          rcases hcases with ⟨ha, hb⟩ | ha
          · replace ha := ha.symm
            subst ha
            go_wp2
            first | exact ⟨⟨K ++ [⟨x, b⟩], cnt1, (show RangeF _ _ _ _ _ _ _ from HG1.out.keep (by with_reducible (repeat' first | assumption | exact Below.refl _ _ | refine Below.drew ?_ | refine bdrewN ?_ _ | refine Below.setCell ?_ (by first | exact Nat.le_refl _ | (simp; done) | (simp; omega) | omega) _ | refine Below.alloc ?_ (by first | exact Nat.le_refl _ | (simp; done) | (simp; omega) | omega) _))), (show RowP _ _ _ _ _ from by rw [HN.out]; exact HR1.out.keep (by with_reducible (repeat' first | assumption | exact Below.refl _ _ | refine Below.drew ?_ | refine bdrewN ?_ _ | refine Below.setCell ?_ (by first | exact Nat.le_refl _ | (simp; done) | (simp; omega) | omega) _ | refine Below.alloc ?_ (by first | exact Nat.le_refl _ | (simp; done) | (simp; omega) | omega) _))), (by with_reducible (repeat' first | assumption | exact Below.refl _ _ | refine Below.drew ?_ | refine bdrewN ?_ _ | refine Below.setCell ?_ (by first | exact Nat.le_refl _ | (simp; done) | (simp; omega) | omega) _ | refine Below.alloc ?_ (by first | exact Nat.le_refl _ | (simp; done) | (simp; omega) | omega) _)), (by with_reducible (repeat' first | assumption | refine Own.drew ?_ | refine Own.drewN ?_ _ | (refine Own.at ?_; first | rfl | (simp; done)) | refine Own.past ?_ _)), hne, (show Hid (_ → _) from fun q => HNn.out (by rw [← HN.out]; exact q))⟩, by first | (rw [RangeF.left_eq (HG1.out.keep (bal _ _)), hle]; exact hlt) | (rw [RangeF.left_eq (HG1.out.keep (bal _ _))]; exact hlt) | exact hlt⟩ | exact ⟨⟨K ++ [⟨x, b⟩], ⟨cnt1, (show RangeF _ _ _ _ _ _ _ from HG1.out.keep (by with_reducible (repeat' first | assumption | exact Below.refl _ _ | refine Below.drew ?_ | refine bdrewN ?_ _ | refine Below.setCell ?_ (by first | exact Nat.le_refl _ | (simp; done) | (simp; omega) | omega) _ | refine Below.alloc ?_ (by first | exact Nat.le_refl _ | (simp; done) | (simp; omega) | omega) _)))⟩, (show RowP _ _ _ _ _ from by rw [HN.out]; exact HR1.out.keep (by with_reducible (repeat' first | assumption | exact Below.refl _ _ | refine Below.drew ?_ | refine bdrewN ?_ _ | refine Below.setCell ?_ (by first | exact Nat.le_refl _ | (simp; done) | (simp; omega) | omega) _ | refine Below.alloc ?_ (by first | exact Nat.le_refl _ | (simp; done) | (simp; omega) | omega) _))), (by with_reducible (repeat' first | assumption | exact Below.refl _ _ | refine Below.drew ?_ | refine bdrewN ?_ _ | refine Below.setCell ?_ (by first | exact Nat.le_refl _ | (simp; done) | (simp; omega) | omega) _ | refine Below.alloc ?_ (by first | exact Nat.le_refl _ | (simp; done) | (simp; omega) | omega) _)), (by with_reducible (repeat' first | assumption | refine Own.drew ?_ | refine Own.drewN ?_ _ | (refine Own.at ?_; first | rfl | (simp; done)) | refine Own.past ?_ _)), hne, (show Hid (_ → _) from fun q => HNn.out (by rw [← HN.out]; exact q))⟩, by first | (rw [RangeF.left_eq (HG1.out.keep (bal _ _)), hle]; exact hlt) | (rw [RangeF.left_eq (HG1.out.keep (bal _ _))]; exact hlt) | exact hlt⟩ | exact ⟨⟨_, _, _, _, _, _, _, _, _, _, _, _, _, _, _, _, _, _, _, _, _, _, ⟨K ++ [⟨x, b⟩], cnt1, (show RangeF _ _ _ _ _ _ _ from HG1.out.keep (by with_reducible (repeat' first | assumption | exact Below.refl _ _ | refine Below.drew ?_ | refine bdrewN ?_ _ | refine Below.setCell ?_ (by first | exact Nat.le_refl _ | (simp; done) | (simp; omega) | omega) _ | refine Below.alloc ?_ (by first | exact Nat.le_refl _ | (simp; done) | (simp; omega) | omega) _))), (show RowP _ _ _ _ _ from by rw [HN.out]; exact HR1.out.keep (by with_reducible (repeat' first | assumption | exact Below.refl _ _ | refine Below.drew ?_ | refine bdrewN ?_ _ | refine Below.setCell ?_ (by first | exact Nat.le_refl _ | (simp; done) | (simp; omega) | omega) _ | refine Below.alloc ?_ (by first | exact Nat.le_refl _ | (simp; done) | (simp; omega) | omega) _))), (by with_reducible (repeat' first | assumption | exact Below.refl _ _ | refine Below.drew ?_ | refine bdrewN ?_ _ | refine Below.setCell ?_ (by first | exact Nat.le_refl _ | (simp; done) | (simp; omega) | omega) _ | refine Below.alloc ?_ (by first | exact Nat.le_refl _ | (simp; done) | (simp; omega) | omega) _)), (by with_reducible (repeat' first | assumption | refine Own.drew ?_ | refine Own.drewN ?_ _ | (refine Own.at ?_; first | rfl | (simp; done)) | refine Own.past ?_ _)), hne, (show Hid (_ → _) from fun q => HNn.out (by rw [← HN.out]; exact q))⟩, rfl⟩, by first | (rw [RangeF.left_eq (HG1.out.keep (bal _ _)), hle]; exact hlt) | (rw [RangeF.left_eq (HG1.out.keep (bal _ _))]; exact hlt) | exact hlt⟩
          · go_wp2
            first | exact ⟨⟨K ++ [⟨a, b⟩], cnt1, (show RangeF _ _ _ _ _ _ _ from HG1.out.keep (by with_reducible (repeat' first | assumption | exact Below.refl _ _ | refine Below.drew ?_ | refine bdrewN ?_ _ | refine Below.setCell ?_ (by first | exact Nat.le_refl _ | (simp; done) | (simp; omega) | omega) _ | refine Below.alloc ?_ (by first | exact Nat.le_refl _ | (simp; done) | (simp; omega) | omega) _))), (show RowP _ _ _ _ _ from by rw [HN.out]; exact HR1.out.keep (by with_reducible (repeat' first | assumption | exact Below.refl _ _ | refine Below.drew ?_ | refine bdrewN ?_ _ | refine Below.setCell ?_ (by first | exact Nat.le_refl _ | (simp; done) | (simp; omega) | omega) _ | refine Below.alloc ?_ (by first | exact Nat.le_refl _ | (simp; done) | (simp; omega) | omega) _))), (by with_reducible (repeat' first | assumption | exact Below.refl _ _ | refine Below.drew ?_ | refine bdrewN ?_ _ | refine Below.setCell ?_ (by first | exact Nat.le_refl _ | (simp; done) | (simp; omega) | omega) _ | refine Below.alloc ?_ (by first | exact Nat.le_refl _ | (simp; done) | (simp; omega) | omega) _)), (by with_reducible (repeat' first | assumption | refine Own.drew ?_ | refine Own.drewN ?_ _ | (refine Own.at ?_; first | rfl | (simp; done)) | refine Own.past ?_ _)), hne, (show Hid (_ → _) from fun q => HNn.out (by rw [← HN.out]; exact q))⟩, by first | (rw [RangeF.left_eq (HG1.out.keep (bal _ _)), hle]; exact hlt) | (rw [RangeF.left_eq (HG1.out.keep (bal _ _))]; exact hlt) | exact hlt⟩ | exact ⟨⟨K ++ [⟨a, b⟩], ⟨cnt1, (show RangeF _ _ _ _ _ _ _ from HG1.out.keep (by with_reducible (repeat' first | assumption | exact Below.refl _ _ | refine Below.drew ?_ | refine bdrewN ?_ _ | refine Below.setCell ?_ (by first | exact Nat.le_refl _ | (simp; done) | (simp; omega) | omega) _ | refine Below.alloc ?_ (by first | exact Nat.le_refl _ | (simp; done) | (simp; omega) | omega) _)))⟩, (show RowP _ _ _ _ _ from by rw [HN.out]; exact HR1.out.keep (by with_reducible (repeat' first | assumption | exact Below.refl _ _ | refine Below.drew ?_ | refine bdrewN ?_ _ | refine Below.setCell ?_ (by first | exact Nat.le_refl _ | (simp; done) | (simp; omega) | omega) _ | refine Below.alloc ?_ (by first | exact Nat.le_refl _ | (simp; done) | (simp; omega) | omega) _))), (by with_reducible (repeat' first | assumption | exact Below.refl _ _ | refine Below.drew ?_ | refine bdrewN ?_ _ | refine Below.setCell ?_ (by first | exact Nat.le_refl _ | (simp; done) | (simp; omega) | omega) _ | refine Below.alloc ?_ (by first | exact Nat.le_refl _ | (simp; done) | (simp; omega) | omega) _)), (by with_reducible (repeat' first | assumption | refine Own.drew ?_ | refine Own.drewN ?_ _ | (refine Own.at ?_; first | rfl | (simp; done)) | refine Own.past ?_ _)), hne, (show Hid (_ → _) from fun q => HNn.out (by rw [← HN.out]; exact q))⟩, by first | (rw [RangeF.left_eq (HG1.out.keep (bal _ _)), hle]; exact hlt) | (rw [RangeF.left_eq (HG1.out.keep (bal _ _))]; exact hlt) | exact hlt⟩ | exact ⟨⟨_, _, _, _, _, _, _, _, _, _, _, _, _, _, _, _, _, _, _, _, _, _, ⟨K ++ [⟨a, b⟩], cnt1, (show RangeF _ _ _ _ _ _ _ from HG1.out.keep (by with_reducible (repeat' first | assumption | exact Below.refl _ _ | refine Below.drew ?_ | refine bdrewN ?_ _ | refine Below.setCell ?_ (by first | exact Nat.le_refl _ | (simp; done) | (simp; omega) | omega) _ | refine Below.alloc ?_ (by first | exact Nat.le_refl _ | (simp; done) | (simp; omega) | omega) _))), (show RowP _ _ _ _ _ from by rw [HN.out]; exact HR1.out.keep (by with_reducible (repeat' first | assumption | exact Below.refl _ _ | refine Below.drew ?_ | refine bdrewN ?_ _ | refine Below.setCell ?_ (by first | exact Nat.le_refl _ | (simp; done) | (simp; omega) | omega) _ | refine Below.alloc ?_ (by first | exact Nat.le_refl _ | (simp; done) | (simp; omega) | omega) _))), (by with_reducible (repeat' first | assumption | exact Below.refl _ _ | refine Below.drew ?_ | refine bdrewN ?_ _ | refine Below.setCell ?_ (by first | exact Nat.le_refl _ | (simp; done) | (simp; omega) | omega) _ | refine Below.alloc ?_ (by first | exact Nat.le_refl _ | (simp; done) | (simp; omega) | omega) _)), (by with_reducible (repeat' first | assumption | refine Own.drew ?_ | refine Own.drewN ?_ _ | (refine Own.at ?_; first | rfl | (simp; done)) | refine Own.past ?_ _)), hne, (show Hid (_ → _) from fun q => HNn.out (by rw [← HN.out]; exact q))⟩, rfl⟩, by first | (rw [RangeF.left_eq (HG1.out.keep (bal _ _)), hle]; exact hlt) | (rw [RangeF.left_eq (HG1.out.keep (bal _ _))]; exact hlt) | exact hlt⟩
end Go.Proofs.Ytmajbophgdimlaa
