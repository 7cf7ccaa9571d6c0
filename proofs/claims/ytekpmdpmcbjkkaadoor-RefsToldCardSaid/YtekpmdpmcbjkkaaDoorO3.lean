/- The contract of refs's Of: of every formula its references, each once, in the order in which its nodes have them first, as a list in new memory. The conditions: the numbers in the nodes' values are int64. -/
import Derived.Test.YtekpmdpmcbjkkaaDoorN9
import Derived.Test.YtekpmdpmcbjkkaaDoorO2
namespace Go.Proofs.YtekpmdpmcbjkkaaDoor
open Go.Shelf Go.RowKit
set_option linter.all false
/-- One more, if it is not yet there. -/
def addR (acc : List Rf) (r : Rf) : List Rf := if acc.any (fun x => sameRf x r) = true then acc else acc ++ [r]
def ofStep (acc : List Rf) (n : Nd) : List Rf := match refN n with
  | some r => addR acc r
  | none => acc
def ofFrom (acc : List Rf) : List Nd → List Rf
  | [] => acc
  | n :: r => ofFrom (ofStep acc n) r
/-- A formula's references. -/
def ofN (ns : List Nd) : List Rf := if chkI ns = 0 then ofFrom [] ns else []
theorem ofFrom_at {acc : List Rf} {ns : List Nd} {i : Nat} {n : Nd} (h : ns[i]? = some n) : ofFrom acc (ns.drop i) = ofFrom (ofStep acc n) (ns.drop (i + 1)) := by
  have hi := (List.getElem?_eq_some_iff.1 h).1
  have e := (List.getElem?_eq_some_iff.1 h).2
  rw [List.drop_eq_getElem_cons hi, e]; rfl
theorem put_may : ∀ (ns : List Nd) (st st' : List Th), putFrom st ns = some st' → ∀ x ∈ ns, mayN x = true
  | [], _, _, _ => fun x hx => by cases hx
  | n :: r, st, st', h => fun x hx => by
    unfold putFrom at h
    cases hs : stepN st n with
    | none => rw [hs] at h; cases h
    | some s2 =>
      rw [hs] at h
      rcases List.mem_cons.1 hx with rfl | hx
      · unfold stepN at hs
        split at hs
        · rename_i hc; exact hc.1
        · cases hs
      · exact put_may r s2 st' h x hx
theorem chk_may {ns : List Nd} (h : chkI ns = 0) : ∀ x ∈ ns, mayN x = true := by
  unfold chkI at h
  cases hm : measN ns with
  | none => rw [hm] at h; cases h
  | some d =>
    unfold measN at hm
    split at hm
    · cases hm
    · cases hp : putFrom [] ns with
      | none => rw [hp] at hm; cases hm
      | some st => exact put_may ns [] st hp
theorem chk_len {ns : List Nd} (h : chkI ns = 0) : 0 < ns.length ∧ ns.length ≤ 1024 := by
  unfold chkI at h
  cases hm : measN ns with
  | none => rw [hm] at h; cases h
  | some d =>
    unfold measN at hm
    split at hm
    · cases hm
    · rename_i hl
      refine ⟨?_, by omega⟩
      cases ns with
      | nil => cases hm
      | cons a b => simp
theorem sameKeyL {a b : Rf} (ha : a.wf) (hb : b.wf) : (keyL a).sameKey (keyL b) = sameRf a b := by
  cases e : (keyL a).sameKey (keyL b)
  · refine (sameRf_f ?_).symm
    rintro rfl
    rw [WideAt.sameKey_self (by trivial)] at e
    cases e
  · rw [key_inj ha hb (WideAt.sameKey_eq e), sameRf_refl]
def dSet (acc : List Rf) : DataW Unit := Go.Maps.setOf (.agg []) (acc.map keyL)
theorem has_key {acc : List Rf} {r : Rf} (ha : ∀ x ∈ acc, x.wf) (hr : r.wf) : Go.Maps.has (dSet acc) (keyL r) = acc.any (fun x => sameRf x r) := by
  unfold dSet
  rw [Go.Maps.has_setOf _ _ _ (fun x hx => by obtain ⟨y, _, rfl⟩ := List.mem_map.1 hx; trivial), List.any_map]
  induction acc with
  | nil => rfl
  | cons a l ih =>
    rw [List.any_cons, List.any_cons, ih (fun x hx => ha x (by simp [hx]))]
    show ((keyL a).sameKey (keyL r) || _) = _
    rw [sameKeyL (ha a (by simp)) hr]
theorem dSet_snoc (acc : List Rf) (r : Rf) : dSet (acc ++ [r]) = (dSet acc).put (keyL r) (.agg []) := by
  unfold dSet; rw [List.map_append]; exact Go.Maps.setOf_snoc _ _ _
/-- The set of references, in its block. -/
abbrev OM (w : World) (B : Nat) (acc : List Rf) : Prop := w.ownsMap Tryd.prog 31 (unitElem (H := Unit)) B acc.length (dSet acc)
theorem zeroE (w : World) : (zeroValue 48).run Tryd.prog w = .ok (.agg #[]) w := by kernel_rfl
theorem infoRf : (Tryd.prog.info? 31).map (fun i => (i.zero, i.size, i.bytes)) = some (some (.agg #[.bool false, .int .i64 0, .int .i64 0, .int .i64 0, .int .i64 0]), 5, 40) := by kernel_rfl
theorem Rf.one (t : Rf) : ∀ u ∈ t.cells.toList, u.oneCell' = true := by
  intro u hu
  simp [Rf.cells] at hu
  rcases hu with h | h | h | h | h <;> (subst h; rfl)
/-- A row of references. -/
abbrev RRow (w : World) (base : Nat) (v : Value) (l : List Rf) : Prop := Row Rf.cells 5 31 w base v l
theorem news_plain (W : World) (cs : Array Value) (T : TypeId) : ∀ (j : Nat) (u : Value), cs.toList[j]? = some u → (W.alloc (.cells cs T)).cell? ((⟨W.heap.size, 0, none⟩ : Addr).add j) = some u := news_one W cs T
theorem Row.grown {α : Type} {c : α → Array Value} {sz : Nat} {e : TypeId} {w w' : World} {base : Nat} {v : Value} {l : List α} {row : Option Nat} (h : Row c sz e w base v l) (hg : w.grownBy w' row) (hne : ∀ g, v.ownBlock = some g → some g ≠ row) : Row c sz e w' base v l :=
  World.ownsRow.kept h hg (by cases hv : v.ownBlock with
    | none => exact .inl rfl
    | some g => exact .inr (hne g hv))
theorem app_rowB {α : Type} {c : α → Array Value} {sz : Nat} {e : TypeId} {w5 : World} {g cap k base : Nat} {l : List α} {t : α} (hl : l.length = k)
    (ho : w5.ownsRow base e sz (.slice (some ⟨g, 0, none⟩) (k + 1) cap) (k + 1) (flatC c l ++ (c t).toList)) : Row c sz e w5 base (.slice (some ⟨g, 0, none⟩) (k + 1) cap) (l ++ [t]) := by
  unfold Row
  rw [flatC_snoc, List.length_append, hl]
  exact ho
theorem om_more {W w5 : World} {B : Nat} {acc : List Rf} {r : Rf} {row : Option Nat} (h : W.ownsMap Tryd.prog 31 (unitElem (H := Unit)) B (acc.length + 1) ((dSet acc).put (keyL r) (.agg []))) (hg : W.grownBy w5 row) (hne : some B ≠ row) : OM w5 B (acc ++ [r]) := by
  show w5.ownsMap _ _ _ B (acc ++ [r]).length (dSet (acc ++ [r]))
  rw [dSet_snoc, List.length_append]
  exact World.ownsMap.kept h hg hne
theorem om_keep {w w' : World} {B : Nat} {acc : List Rf} (h : OM w B acc) (hb : Below w.heap.size w w') : OM w' B acc := by
  obtain ⟨es, clock, h1, h2⟩ := h
  refine ⟨es, clock, (hb.block B ?_).trans h1, h2⟩
  exact (Array.getElem?_eq_some_iff.1 h1).1
set_option maxRecDepth 100000 in
set_option maxHeartbeats 8000000 in
theorem of_y (w : World) (b o cap n : Nat) (ns : List Nd) (hlb : b < w.heap.size) (HC : ∀ i x, ns[i]? = some x → ∀ j, j < 15 → w.cell? ⟨b, o + i * 15 + j, none⟩ = (Nd.cells x)[j]?)
    (hn : ns.length = n) (hcap : n ≤ cap) (h0 : 0 < n) (hl : n ≤ 1024) (hmay : ∀ x ∈ ns, mayN x = true)
    (hCk : ∀ w1, Below w.heap.size w w1 → Calls Tryd.prog 10 #[.agg #[.slice (some ⟨b, o, none⟩) n cap]] w1 fun e w' => e = .returned (.int .i64 0) ∧ Below w1.heap.size w1 w') :
    Calls Tryd.prog 5 #[.agg #[.slice (some ⟨b, o, none⟩) n cap]] w fun e w' => ∃ v, e = .returned v ∧ RRow w' w.heap.size v (ofFrom [] ns) ∧ Below w.heap.size w w' := by
  have hmm := @run_makeMap Tryd.prog
  have HC' : Hid _ := HC
  have HN : Hid (ns.length = n) := hn
  have HMY : Hid _ := hmay
  have HCK : Hid _ := hCk
  clear HC hn hmay hCk
  obtain ⟨i0, hi0, hz0, hz1, hz2⟩ := info_parts infoRf
  have HI : Hid _ := hi0
  have HZ0 : Hid _ := hz0
  have HZ1 : Hid _ := hz1
  have HZ2 : Hid _ := hz2
  clear hi0 hz0 hz1 hz2
  go_enter Tryd.func5, Tryd.ntmps5
  go_wp2_with (go_at_call 10; refine (HCK.out _ (by with_reducible (repeat' first | assumption | exact Below.refl _ _ | refine Below.drew ?_ | refine bdrewN ?_ _ | refine Below.setCell ?_ (by first | exact Nat.le_refl _ | (simp; done) | (simp; omega) | omega) _ | refine Below.alloc ?_ (by first | exact Nat.le_refl _ | (simp; done) | (simp; omega) | omega) _))).mono ?_; rintro e w1 ⟨rfl, hb⟩; have hB1 : Below w.heap.size w w1 := bup (by with_reducible (repeat' first | assumption | exact Below.refl _ _ | refine Below.drew ?_ | refine bdrewN ?_ _ | refine Below.setCell ?_ (by first | exact Nat.le_refl _ | (simp; done) | (simp; omega) | omega) _ | refine Below.alloc ?_ (by first | exact Nat.le_refl _ | (simp; done) | (simp; omega) | omega) _)) hb; have o1 : Own w1 (w.heap.size) #[.slice (some ⟨b, o, none⟩) n cap] := Own.keep (by with_reducible (repeat' first | assumption | refine Own.drew ?_ | refine Own.drewN ?_ _ | (refine Own.at ?_; first | rfl | (simp; done)) | refine Own.past ?_ _ | refine Own.aside ?_ (by first | (simp; done) | (simp; omega) | omega) _)) hb; have c1 := o1.cell; have f1 := o1.fro; have l1 := o1.lt)
  obtain ⟨B, hBB⟩ : ∃ B, w1.heap.size = B := ⟨_, rfl⟩
  have hz1 := hB1.size
  rw [hBB] at hz1 l1 ⊢
  go_loopw [3, 18] (fun lv v w' => ∃ (i : Nat) (acc : List Rf), v = .int .i64 i ∧ i ≤ n ∧ Hid (ofFrom acc (ns.drop i) = ofFrom [] ns) ∧ Hid (∀ x ∈ acc, x.wf) ∧ RRow w' (B + 1) lv acc ∧ OM w' B acc ∧ Below w.heap.size w w' ∧ acc.length ≤ i ∧ Own w' w.heap.size #[.slice (some ⟨b, o, none⟩) n cap]) (fun _ v _ => n - (intOf v).toNat)
  case atStart => exact ⟨0, [], rfl, by omega, rfl, (fun x hx => by cases hx), Row.nil _ _, (by rw [← hBB]; exact World.ownsMap_made _ _ _ _), by with_reducible (repeat' first | assumption | exact Below.refl _ _ | refine Below.drew ?_ | refine bdrewN ?_ _ | refine Below.setCell ?_ (by first | exact Nat.le_refl _ | (simp; done) | (simp; omega) | omega) _ | refine Below.alloc ?_ (by first | exact Nat.le_refl _ | (simp; done) | (simp; omega) | omega) _), Nat.le_refl _, by with_reducible (repeat' first | assumption | refine Own.drew ?_ | refine Own.drewN ?_ _ | (refine Own.at ?_; first | rfl | (simp; done)) | refine Own.past ?_ _ | refine Own.aside ?_ (by first | (simp; done) | (simp; omega) | omega) _)⟩
  case round =>
    obtain ⟨i, acc, rfl, hi, hof, hwf, hrow, hom, hB, hal, o0⟩ := hrel
    have z := hB.size
    have c0 := o0.cell
    have f0 := o0.fro
    have l0 := o0.lt
    have lbm := World.ownsMap.lt hom
    by_cases hlt : i < n
    · have hlt' : (i : Int) < n := by omega
      have hti : ns[i]? = some (ns[i]'(by rw [HN.out]; exact hlt)) := List.getElem?_eq_getElem _
      have hmy := HMY.out _ (List.mem_of_getElem? hti)
      have cx := fun j hj => (show wr.cell? ⟨b, o + i * 15 + j, none⟩ = _ from (hB.cell (p := ⟨b, o + i * 15 + j, none⟩) hlb).trans (HC'.out i _ hti j hj))
      have HTI : Hid _ := hti
      revert hmy cx HTI
      generalize (ns[i]'(by rw [HN.out]; exact hlt)) = nd
      intro hmy cx HTI
      clear hti
      have x0 : wr.cell? ⟨b, o + i * 15, none⟩ = some (.int .i64 nd.kind) := cx 0 (by decide)
      have x1 : wr.cell? ⟨b, o + i * 15 + 1, none⟩ = some (.int .i64 nd.tag) := cx 1 (by decide)
      have x2 : wr.cell? ⟨b, o + i * 15 + 2, none⟩ = some (.int .i64 nd.num) := cx 2 (by decide)
      have x3 : wr.cell? ⟨b, o + i * 15 + 3, none⟩ = some (.string nd.str) := cx 3 (by decide)
      have x4 : wr.cell? ⟨b, o + i * 15 + 4, none⟩ = some (.bool nd.is) := cx 4 (by decide)
      have x5 : wr.cell? ⟨b, o + i * 15 + 5, none⟩ = some (.int .i64 nd.code) := cx 5 (by decide)
      have x6 : wr.cell? ⟨b, o + i * 15 + 6, none⟩ = some (.int .i64 nd.row) := cx 6 (by decide)
      have x7 : wr.cell? ⟨b, o + i * 15 + 7, none⟩ = some (.int .i64 nd.col) := cx 7 (by decide)
      have x8 : wr.cell? ⟨b, o + i * 15 + 8, none⟩ = some (.int .i64 nd.top) := cx 8 (by decide)
      have x9 : wr.cell? ⟨b, o + i * 15 + 9, none⟩ = some (.int .i64 nd.left) := cx 9 (by decide)
      have x10 : wr.cell? ⟨b, o + i * 15 + 10, none⟩ = some (.int .i64 nd.bot) := cx 10 (by decide)
      have x11 : wr.cell? ⟨b, o + i * 15 + 11, none⟩ = some (.int .i64 nd.right) := cx 11 (by decide)
      have x12 : wr.cell? ⟨b, o + i * 15 + 12, none⟩ = some (.int .i64 nd.op) := cx 12 (by decide)
      have x13 : wr.cell? ⟨b, o + i * 15 + 13, none⟩ = some (.string nd.name) := cx 13 (by decide)
      have x14 : wr.cell? ⟨b, o + i * 15 + 14, none⟩ = some (.int .i64 nd.args) := cx 14 (by decide)
      clear cx
      have HMN : Hid (mayN nd = true) := hmy
      have HRF : Hid (∀ w, Calls Tryd.prog 11 #[.agg #[.int .i64 nd.kind, .int .i64 nd.tag, .int .i64 nd.num, .string nd.str, .bool nd.is, .int .i64 nd.code, .int .i64 nd.row, .int .i64 nd.col, .int .i64 nd.top, .int .i64 nd.left, .int .i64 nd.bot, .int .i64 nd.right, .int .i64 nd.op, .string nd.name, .int .i64 nd.args]] w fun e w' => e = .returned (refOut (refN nd)) ∧ Below w.heap.size w w') := fun w => ref_any nd w (may_cell hmy)
      clear hmy
      cases hrn : refN nd with
      | none =>
        have HR : Hid (refN nd = none) := hrn
        have HO : Hid (ofFrom acc (ns.drop (i + 1)) = ofFrom [] ns) := by show _ = _; rw [← hof.out, ofFrom_at HTI.out]; unfold ofStep; rw [hrn]
        clear hrn
        go_wp2_with (go_at_call 11; refine (HRF.out _).mono ?_; rw [HR.out]; dsimp only [refOut, Rf.cells, rf0]; rintro e w2 ⟨rfl, hb2⟩; have hB2 : Below w.heap.size w w2 := bup (by with_reducible (repeat' first | assumption | exact Below.refl _ _ | refine Below.drew ?_ | refine bdrewN ?_ _ | refine Below.setCell ?_ (by first | exact Nat.le_refl _ | (simp; done) | (simp; omega) | omega) _ | refine Below.alloc ?_ (by first | exact Nat.le_refl _ | (simp; done) | (simp; omega) | omega) _)) hb2; have o2 : Own w2 (w.heap.size) #[.slice (some ⟨b, o, none⟩) n cap] := Own.keep (by with_reducible (repeat' first | assumption | refine Own.drew ?_ | refine Own.drewN ?_ _ | (refine Own.at ?_; first | rfl | (simp; done)) | refine Own.past ?_ _ | refine Own.aside ?_ (by first | (simp; done) | (simp; omega) | omega) _)) hb2; have hr2 : RRow w2 (B + 1) u3 acc := Row.keep (by with_reducible (repeat' first | assumption | refine Row.drew ?_ | refine Row.past ?_ _)) hb2; have hm2 : OM w2 B acc := om_keep (by with_reducible (repeat' first | assumption | refine World.ownsMap.drew ?_ | refine World.ownsMap.alloc ?_ _)) hb2; have c2 := o2.cell; have l2 := o2.lt; have z2 := hB2.size; have lb2 := World.ownsMap.lt hm2)
        go_roundw
        case rel => exact ⟨i + 1, acc, by go_num, by omega, HO, hwf, by with_reducible (repeat' first | assumption | refine Row.drew ?_ | refine Row.past ?_ _), by with_reducible (repeat' first | assumption | refine World.ownsMap.drew ?_ | refine World.ownsMap.alloc ?_ _), by with_reducible (repeat' first | assumption | exact Below.refl _ _ | refine Below.drew ?_ | refine bdrewN ?_ _ | refine Below.setCell ?_ (by first | exact Nat.le_refl _ | (simp; done) | (simp; omega) | omega) _ | refine Below.alloc ?_ (by first | exact Nat.le_refl _ | (simp; done) | (simp; omega) | omega) _), by omega, by with_reducible (repeat' first | assumption | refine Own.drew ?_ | refine Own.drewN ?_ _ | (refine Own.at ?_; first | rfl | (simp; done)) | refine Own.past ?_ _ | refine Own.aside ?_ (by first | (simp; done) | (simp; omega) | omega) _)⟩
        case measure => simp [intOf]; omega
      | some r =>
        have HR : Hid (refN nd = some r) := hrn
        have HWR : Hid (r.wf) := may_ref HMN.out hrn
        have hh := has_key hwf.out HWR.out
        cases hk : acc.any (fun x => sameRf x r)
        · rw [hk] at hh
          have HH : Hid _ := hh
          have HO : Hid (ofFrom (acc ++ [r]) (ns.drop (i + 1)) = ofFrom [] ns) := by show _ = _; rw [← hof.out, ofFrom_at HTI.out]; unfold ofStep; rw [hrn]; unfold addR; simp [hk]
          have HW2 : Hid (∀ x ∈ acc ++ [r], x.wf) := fun x hx => by
            rcases List.mem_append.1 hx with h | h
            · exact hwf.out x h
            · have e : x = r := by simpa using h
              rw [e]; exact HWR.out
          clear hrn hh hk
          go_wp2_with (first | (go_at_call 11; refine (HRF.out _).mono ?_; rw [HR.out]; dsimp only [refOut, Rf.cells, rf0]; rintro e w2 ⟨rfl, hb2⟩; have hB2 : Below w.heap.size w w2 := bup (by with_reducible (repeat' first | assumption | exact Below.refl _ _ | refine Below.drew ?_ | refine bdrewN ?_ _ | refine Below.setCell ?_ (by first | exact Nat.le_refl _ | (simp; done) | (simp; omega) | omega) _ | refine Below.alloc ?_ (by first | exact Nat.le_refl _ | (simp; done) | (simp; omega) | omega) _)) hb2; have o2 : Own w2 (w.heap.size) #[.slice (some ⟨b, o, none⟩) n cap] := Own.keep (by with_reducible (repeat' first | assumption | refine Own.drew ?_ | refine Own.drewN ?_ _ | (refine Own.at ?_; first | rfl | (simp; done)) | refine Own.past ?_ _ | refine Own.aside ?_ (by first | (simp; done) | (simp; omega) | omega) _)) hb2; have hr2 : RRow w2 (B + 1) u3 acc := Row.keep (by with_reducible (repeat' first | assumption | refine Row.drew ?_ | refine Row.past ?_ _)) hb2; have hm2 : OM w2 B acc := om_keep (by with_reducible (repeat' first | assumption | refine World.ownsMap.drew ?_ | refine World.ownsMap.alloc ?_ _)) hb2; have c2 := o2.cell; have l2 := o2.lt; have z2 := hB2.size; have lb2 := World.ownsMap.lt hm2) | (at_lookup; refine wpList_lookup_own_unit (H := Unit) _ rfl _ _ 45 rfl 31 48 lawRef Tryd.underlying45 (zeroE _) B acc.length (dSet acc) rfl (by with_reducible (repeat' first | assumption | refine World.ownsMap.drew ?_ | refine World.ownsMap.alloc ?_ _)) _ _ rfl (key_of r HWR.out) ?_; rw [HH.out]) | (at_mapUpdate; refine wpList_mapUpdate_own (H := Unit) _ rfl _ _ _ 45 rfl 31 48 lawRef Tryd.underlying45 (unitElem (H := Unit)) B acc.length (dSet acc) rfl (by with_reducible (repeat' first | assumption | refine World.ownsMap.drew ?_ | refine World.ownsMap.alloc ?_ _)) (by unfold maxLen; omega) _ _ _ rfl rfl (key_of r HWR.out) (.agg []) [] unitElem_mk ?_; intro w3 hown3 hgrow3; have o3 : Own w3 (w.heap.size) #[.slice (some ⟨b, o, none⟩) n cap] := own_grown (by with_reducible (repeat' first | assumption | refine Own.drew ?_ | refine Own.drewN ?_ _ | (refine Own.at ?_; first | rfl | (simp; done)) | refine Own.past ?_ _ | refine Own.aside ?_ (by first | (simp; done) | (simp; omega) | omega) _)) hgrow3 (by intro g' hg'; cases hg'; omega); have o4 : Own w3 (w2.heap.size) #[.bool r.many, .int .i64 r.top, .int .i64 r.left, .int .i64 r.bot, .int .i64 r.right] := own_grown (by with_reducible (repeat' first | assumption | refine Own.drew ?_ | refine Own.drewN ?_ _ | (refine Own.at ?_; first | rfl | (simp; done)) | refine Own.past ?_ _ | refine Own.aside ?_ (by first | (simp; done) | (simp; omega) | omega) _)) hgrow3 (by intro g' hg'; cases hg'; omega); have c3 := o3.cell; have c4 := o4.cell; have l3 := o3.lt; have l4 := o4.lt; have hr3 : RRow w3 (B + 1) u3 acc := Row.grown (by with_reducible (repeat' first | assumption | refine Row.drew ?_ | refine Row.past ?_ _)) hgrow3 (by intro g' hg'; have hq := (Row.lt hr2 g' hg').1; intro e; cases e; omega); have hB3 : Below w.heap.size w w3 := Below.grown (by with_reducible (repeat' first | assumption | exact Below.refl _ _ | refine Below.drew ?_ | refine bdrewN ?_ _ | refine Below.setCell ?_ (by first | exact Nat.le_refl _ | (simp; done) | (simp; omega) | omega) _ | refine Below.alloc ?_ (by first | exact Nat.le_refl _ | (simp; done) | (simp; omega) | omega) _)) hgrow3 (by simp; omega) (by intro k hk; cases hk; omega); have z3 := hB3.size) | (at_builtin; refine wpList_append_lies _ rfl _ _ 26 rfl (B + 1) 31 i0 _ 5 40 Tryd.underlying26 HI.out HZ0.out HZ1.out HZ2.out rfl (by decide) _ acc.length (flatC Rf.cells acc) rfl (World.ownsRow.alloc hr3 _) ⟨w3.heap.size, 0, none⟩ 1 1 r.cells.toList rfl rfl (news_plain w3 r.cells _) r.one (by decide) (by unfold maxLen; omega) (by omega) (by simp; omega) (w3.heap.size + 1) (by simp) ?_; intro g5 cap5 w5 hown5 hgrow5 hat5 hlt5))
          have hne5 : ∀ g', u3.ownBlock = some g' → B + 1 ≤ g' := fun g' hg' => (Row.lt hr2 g' hg').1
          have q1 := app_rowB (c := Rf.cells) (l := acc) (t := r) rfl hown5
          have q2 : OM w5 B (acc ++ [r]) := om_more (World.ownsMap.alloc hown3 _) hgrow5 (by intro e; have := hne5 B e.symm; omega)
          have q3 : Below w.heap.size w w5 := Below.grown (by with_reducible (repeat' first | assumption | exact Below.refl _ _ | refine Below.drew ?_ | refine bdrewN ?_ _ | refine Below.setCell ?_ (by first | exact Nat.le_refl _ | (simp; done) | (simp; omega) | omega) _ | refine Below.alloc ?_ (by first | exact Nat.le_refl _ | (simp; done) | (simp; omega) | omega) _)) hgrow5 (by simp; omega) (by intro k hk; have := hne5 k hk; omega)
          have q4 : Own w5 w.heap.size #[.slice (some ⟨b, o, none⟩) n cap] := own_grown (by with_reducible (repeat' first | assumption | refine Own.drew ?_ | refine Own.drewN ?_ _ | (refine Own.at ?_; first | rfl | (simp; done)) | refine Own.past ?_ _ | refine Own.aside ?_ (by first | (simp; done) | (simp; omega) | omega) _)) hgrow5 (by intro g' hg'; have := hne5 g' hg'; omega)
          go_roundw
          case rel => exact ⟨i + 1, acc ++ [r], by go_num, by omega, HO, HW2, q1, q2, q3, by simp; omega, q4⟩
          case measure => simp [intOf]; omega
        · rw [hk] at hh
          have HH : Hid _ := hh
          have HO : Hid (ofFrom acc (ns.drop (i + 1)) = ofFrom [] ns) := by show _ = _; rw [← hof.out, ofFrom_at HTI.out]; unfold ofStep; rw [hrn]; unfold addR; simp [hk]
          clear hrn hh hk
          go_wp2_with (first | (go_at_call 11; refine (HRF.out _).mono ?_; rw [HR.out]; dsimp only [refOut, Rf.cells, rf0]; rintro e w2 ⟨rfl, hb2⟩; have hB2 : Below w.heap.size w w2 := bup (by with_reducible (repeat' first | assumption | exact Below.refl _ _ | refine Below.drew ?_ | refine bdrewN ?_ _ | refine Below.setCell ?_ (by first | exact Nat.le_refl _ | (simp; done) | (simp; omega) | omega) _ | refine Below.alloc ?_ (by first | exact Nat.le_refl _ | (simp; done) | (simp; omega) | omega) _)) hb2; have o2 : Own w2 (w.heap.size) #[.slice (some ⟨b, o, none⟩) n cap] := Own.keep (by with_reducible (repeat' first | assumption | refine Own.drew ?_ | refine Own.drewN ?_ _ | (refine Own.at ?_; first | rfl | (simp; done)) | refine Own.past ?_ _ | refine Own.aside ?_ (by first | (simp; done) | (simp; omega) | omega) _)) hb2; have hr2 : RRow w2 (B + 1) u3 acc := Row.keep (by with_reducible (repeat' first | assumption | refine Row.drew ?_ | refine Row.past ?_ _)) hb2; have hm2 : OM w2 B acc := om_keep (by with_reducible (repeat' first | assumption | refine World.ownsMap.drew ?_ | refine World.ownsMap.alloc ?_ _)) hb2; have c2 := o2.cell; have l2 := o2.lt; have z2 := hB2.size; have lb2 := World.ownsMap.lt hm2) | (at_lookup; refine wpList_lookup_own_unit (H := Unit) _ rfl _ _ 45 rfl 31 48 lawRef Tryd.underlying45 (zeroE _) B acc.length (dSet acc) rfl (by with_reducible (repeat' first | assumption | refine World.ownsMap.drew ?_ | refine World.ownsMap.alloc ?_ _)) _ _ rfl (key_of r HWR.out) ?_; rw [HH.out]))
          go_roundw
          case rel => exact ⟨i + 1, acc, by go_num, by omega, HO, hwf, by with_reducible (repeat' first | assumption | refine Row.drew ?_ | refine Row.past ?_ _), by with_reducible (repeat' first | assumption | refine World.ownsMap.drew ?_ | refine World.ownsMap.alloc ?_ _), by with_reducible (repeat' first | assumption | exact Below.refl _ _ | refine Below.drew ?_ | refine bdrewN ?_ _ | refine Below.setCell ?_ (by first | exact Nat.le_refl _ | (simp; done) | (simp; omega) | omega) _ | refine Below.alloc ?_ (by first | exact Nat.le_refl _ | (simp; done) | (simp; omega) | omega) _), by omega, by with_reducible (repeat' first | assumption | refine Own.drew ?_ | refine Own.drewN ?_ _ | (refine Own.at ?_; first | rfl | (simp; done)) | refine Own.past ?_ _ | refine Own.aside ?_ (by first | (simp; done) | (simp; omega) | omega) _)⟩
          case measure => simp [intOf]; omega
    · have hlt' : ¬ (i : Int) < n := by omega
      have HE : Hid (acc = ofFrom [] ns) := by
        show _ = _
        have h := hof.out
        rw [List.drop_of_length_le (by rw [HN.out]; omega)] at h
        exact h
      obtain ⟨tp, tc, rfl, htc, htm⟩ := hrow.slice
      go_wp2
      go_ret
      exact ⟨_, rfl, by rw [← HE.out]; exact hrow.mono (by omega), hB⟩
set_option maxHeartbeats 1000000 in
theorem of_n (w : World) (p : Option Addr) (n cap : Nat)
    (hCk : ∀ w1, Below w.heap.size w w1 → Calls Tryd.prog 10 #[.agg #[.slice p n cap]] w1 fun e w' => e = .returned (.int .i64 20) ∧ Below w1.heap.size w1 w') :
    Calls Tryd.prog 5 #[.agg #[.slice p n cap]] w fun e w' => ∃ v, e = .returned v ∧ RRow w' w.heap.size v [] ∧ Below w.heap.size w w' := by
  have HCK : Hid _ := hCk
  clear hCk
  go_enter Tryd.func5, Tryd.ntmps5
  go_wp2_with (go_at_call 10; refine (HCK.out _ (by with_reducible (repeat' first | assumption | exact Below.refl _ _ | refine Below.drew ?_ | refine bdrewN ?_ _ | refine Below.setCell ?_ (by first | exact Nat.le_refl _ | (simp; done) | (simp; omega) | omega) _ | refine Below.alloc ?_ (by first | exact Nat.le_refl _ | (simp; done) | (simp; omega) | omega) _))).mono ?_; rintro e w1 ⟨rfl, hb⟩; have hB1 : Below w.heap.size w w1 := bup (by with_reducible (repeat' first | assumption | exact Below.refl _ _ | refine Below.drew ?_ | refine bdrewN ?_ _ | refine Below.setCell ?_ (by first | exact Nat.le_refl _ | (simp; done) | (simp; omega) | omega) _ | refine Below.alloc ?_ (by first | exact Nat.le_refl _ | (simp; done) | (simp; omega) | omega) _)) hb)
  go_ret
  exact ⟨_, rfl, Row.nil _ _, hB1⟩
theorem of_any (w : World) (v : Value) (ns : List Nd) (hv : NV w v ns) (hwf : ∀ x ∈ ns, Vv.I64 x.num) : Calls Tryd.prog 5 #[.agg #[v]] w fun e w' => ∃ v, e = .returned v ∧ RRow w' w.heap.size v (ofN ns) ∧ Below w.heap.size w w' := by
  have hCk : ∀ w1, Below w.heap.size w w1 → Calls Tryd.prog 10 #[.agg #[v]] w1 fun e w' => e = .returned (.int .i64 (chkI ns)) ∧ Below w1.heap.size w1 w' := fun w1 h => check_any w1 v ns (hv.keep h) hwf
  obtain ⟨p, cap, rfl, hc, hf⟩ := hv
  unfold ofN
  rcases chkI_two ns with h | h
  · rw [if_pos h]
    rw [h] at hCk
    have hl := chk_len h
    obtain ⟨b, o, rfl, hlt, HC⟩ := hf hl.1
    exact of_y w b o cap ns.length ns hlt HC rfl hc hl.1 hl.2 (chk_may h) hCk
  · rw [if_neg (by omega)]
    rw [h] at hCk
    exact of_n w p _ cap hCk
end Go.Proofs.YtekpmdpmcbjkkaaDoor
