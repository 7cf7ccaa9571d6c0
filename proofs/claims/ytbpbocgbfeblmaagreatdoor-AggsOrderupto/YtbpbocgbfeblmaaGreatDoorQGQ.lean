/- The contract of slices.Sort at numbers of 64 bits, over rows of the call's own: the row by size; nothing else is turned. The contracts of the law's number, single and column (package oriellaw10). New memory alone is made. -/
import Derived.Test.YtbpbocgbfeblmaaGreatDoorQGL
import Derived.Sort.OwnSortedInts
import Derived.Deep.AppendLies
namespace Go.Proofs.YtbpbocgbfeblmaaGreatDoor
open Go.RowKit Go.Sort
set_option linter.all false
theorem flat_icell : ∀ (l : List Int), flatC icell l = l.map (Value.int .i64)
  | [] => rfl
  | x :: l => by
    have h := flat_icell l
    unfold flatC at h ⊢
    rw [List.flatMap_cons, h]; rfl
theorem sort_row (W : World) (B : Nat) (p : Option Addr) (m c : Nat) (l : List Int) (h : Row icell 1 2 W B (.slice p m c) l) (h0 : 0 < m) (hm : m ≤ 1099511627776) : Calls Tryz.prog 115 #[.slice p m c] W fun e w' => e = .returned (.tuple #[]) ∧ Hid (NV w' p m (srt l)) ∧ Mut (fun q => (Value.slice p m c).ownBlock = some q) W w' := by
  have hr := h
  unfold Row at hr
  obtain ⟨hlen, hh⟩ := hr
  rcases hh with ⟨e, _⟩ | ⟨g, cap, cur, e, hbase, hb, h1, h2, h3, h4⟩
  · injection e with _ e2 _; omega
  injection e with e1 e2 e3
  subst e1 e3
  subst e2
  rw [flat_icell, Nat.mul_one] at h4
  have hH := holds_of_blockI hb h4
  have hgl : g < W.heap.size := (Array.getElem?_eq_some_iff.1 hb).1
  refine (AnyG.slices_Sort_int Tryz.sortI64 g 0 c l W hH hgl (by omega)).mono ?_
  rintro e w' ⟨rfl, n, os, rfl⟩
  have hs : (l.mergeSort fun x y => decide (x ≤ y)).length = l.length := List.length_mergeSort ..
  have ho := ownsRow_sortedI (n := n) (os := os) hs hbase hb h1 h2 h3
  have hg := grownBy_sortedI (w := W) (g := g) (n := n) (os := os) (l.mergeSort fun x y => decide (x ≤ y)).toArray
  have hrow : Row icell 1 2 (grow (putRow (Value.int .i64) (Sort.ahead W n) g 0 (l.mergeSort fun x y => decide (x ≤ y)).toArray) os) B (.slice (some ⟨g, 0, none⟩) l.length c) (srt l) := by
    unfold Row
    rw [flat_icell, srt_len]
    exact ho
  obtain ⟨p', c', e', _, hnv⟩ := NV.ofRow hrow
  injection e' with e1' e2' _
  rw [← e1', srt_len] at hnv
  exact ⟨rfl, hnv, ⟨hg.os, hg.tape, hg.output, hg.size, fun k hk hn => hg.block k hk (fun e => hn e.symm)⟩⟩
end Go.Proofs.YtbpbocgbfeblmaaGreatDoor
namespace Go.Proofs.YtbpbocgbfeblmaaGreatDoor
open Go.RowKit
set_option linter.all false
theorem number_any (x : Int) (w : World) : Calls Tryz.prog 13 #[.int .i64 x] w fun e w' => e = .returned (.agg #[.int .i64 (1), .int .i64 (x), .string ⟨#[]⟩, .bool false, .int .i64 (0)]) ∧ Below w.heap.size w w' := by
  go_enter Tryz.func13, Tryz.ntmps13
  go_wp2
  exact bodyPost_ret (v := (.agg #[.int .i64 (1), .int .i64 (x), .string ⟨#[]⟩, .bool false, .int .i64 (0)])) (by simp [results, Tryz.results13, go_sem]) rfl ⟨rfl, by with_reducible (repeat' first | assumption | exact Below.refl _ _ | refine Below.drew ?_ | refine bdrewN ?_ _ | refine Below.setCell ?_ (by first | exact Nat.le_refl _ | (simp; done) | (simp; omega) | omega) _ | refine Below.alloc ?_ (by first | exact Nat.le_refl _ | (simp; done) | (simp; omega) | omega) _)⟩
theorem single_any (t n : Int) (s : ByteArray) (b : Bool) (c : Int) (w : World) : Calls Tryz.prog 12 #[.agg #[.int .i64 t, .int .i64 n, .string s, .bool b, .int .i64 c]] w fun e w' => e = .returned (.agg #[.bool false, .int .i64 t, .int .i64 n, .string s, .bool b, .int .i64 c, .int .i64 0, .int .i64 0, .int .i64 0, .int .i64 0, .slice none 0 0]) ∧ Below w.heap.size w w' := by
  go_enter Tryz.func12, Tryz.ntmps12
  go_wp2
  exact bodyPost_ret (v := .agg #[.bool false, .int .i64 t, .int .i64 n, .string s, .bool b, .int .i64 c, .int .i64 0, .int .i64 0, .int .i64 0, .int .i64 0, .slice none 0 0]) (by simp [results, Tryz.results12, go_sem]) rfl ⟨rfl, by with_reducible (repeat' first | assumption | exact Below.refl _ _ | refine Below.drew ?_ | refine bdrewN ?_ _ | refine Below.setCell ?_ (by first | exact Nat.le_refl _ | (simp; done) | (simp; omega) | omega) _ | refine Below.alloc ?_ (by first | exact Nat.le_refl _ | (simp; done) | (simp; omega) | omega) _)⟩
/-- A number that may be: 0 in the place of the least. -/
def fx (x : Int) : Int := if x = -9223372036854775808 then 0 else x
def enAt (i : Nat) (x : Int) : En := ⟨(i : Int) + 1, 1, 1, fx x, ⟨#[]⟩, false, 0⟩
/-- The entries of a column. -/
def colE (l : List Int) : List En := l.zipIdx.map (fun q => enAt q.2 q.1)
theorem colE_len (l : List Int) : (colE l).length = l.length := by unfold colE; rw [List.length_map, List.length_zipIdx]
theorem colE_snoc {l : List Int} {i : Nat} {x : Int} (h : l[i]? = some x) : colE (l.take (i + 1)) = colE (l.take i) ++ [enAt i x] := by
  have hi := (List.getElem?_eq_some_iff.1 h).1
  unfold colE
  rw [List.take_succ, h, Option.toList_some, List.zipIdx_append, List.map_append, List.length_take, Nat.min_eq_left (by omega), Nat.zero_add]
  rfl
theorem En.csize (a : En) : a.cells.size = 7 := rfl
theorem En.one (a : En) : ∀ u ∈ a.cells.toList, u.oneCell' = true := by
  intro u hu
  simp [En.cells] at hu
  rcases hu with h | h | h | h | h | h | h <;> subst h <;> rfl
theorem infoEn : (Tryz.prog.info? 44).map (fun i => (i.zero, i.size, i.bytes)) = some (some (.agg #[.int .i64 0, .int .i64 0, .int .i64 0, .int .i64 0, .string ⟨#[]⟩, .bool false, .int .i64 0]), 7, 64) := by kernel_rfl
/-- The lowest row of a column of so many. -/
def btm (n : Nat) : Int := if n = 0 then 1 else n
theorem btm_succ (i : Nat) : (i : Int) + 1 = btm (i + 1) := by unfold btm; rw [if_neg (Nat.succ_ne_zero i)]; simp
set_option maxRecDepth 100000 in
set_option maxHeartbeats 4000000 in
theorem col_any (w : World) (p : Option Addr) (n c : Nat) (l : List Int) (hv : NV w p n l) (hn : n ≤ 4096) : Calls Tryz.prog 40 #[.slice p n c] w fun e w' => (∃ up uc, e = .returned (.agg #[.bool true, .int .i64 0, .int .i64 0, .string ⟨#[]⟩, .bool false, .int .i64 0, .int .i64 1, .int .i64 1, .int .i64 (btm n), .int .i64 1, .slice up n uc]) ∧ Hid (Row En.cells 7 44 w' (w.heap.size + 2) (.slice up n uc) (colE l))) ∧ Below w.heap.size w w' := by
  obtain ⟨i0, hi, hz0, hz1, hz2⟩ := info_parts infoEn
  have HI : Hid _ := hi
  have HZ0 : Hid _ := hz0
  have HZ1 : Hid _ := hz1
  have HZ2 : Hid _ := hz2
  clear hi hz0 hz1 hz2
  have HV : Hid (NV w p n l) := hv
  clear hv
  go_enter Tryz.func40, Tryz.ntmps40
  go_wp2
  go_loopw [4] (fun v w' => ∃ (i : Nat) (u : Value) (bt : Int), v = .int .i64 i ∧ i ≤ n ∧ Hid (bt = btm i) ∧ Below w.heap.size w w' ∧ Own w' w.heap.size #[.bool false, .int .i64 0, .int .i64 0, .string ⟨#[]⟩, .bool false, .int .i64 0, .int .i64 0, .int .i64 0, .int .i64 0, .int .i64 0, .slice none 0 0] ∧ Own w' (w.heap.size + 1) #[.bool true, .int .i64 0, .int .i64 0, .string ⟨#[]⟩, .bool false, .int .i64 0, .int .i64 1, .int .i64 1, .int .i64 bt, .int .i64 1, u] ∧ Hid (Row En.cells 7 44 w' (w.heap.size + 2) u (colE (l.take i)))) (fun v _ => n - (intOf v).toNat)
  case atStart => exact ⟨0, .slice none 0 0, 1, rfl, by omega, rfl, by with_reducible (repeat' first | assumption | exact Below.refl _ _ | refine Below.drew ?_ | refine bdrewN ?_ _ | refine Below.setCell ?_ (by first | exact Nat.le_refl _ | (simp; done) | (simp; omega) | omega) _ | refine Below.alloc ?_ (by first | exact Nat.le_refl _ | (simp; done) | (simp; omega) | omega) _), by with_reducible (repeat' first | assumption | refine Own.drew ?_ | refine Own.drewN ?_ _ | (refine Own.at ?_; first | rfl | (simp; done)) | refine Own.past ?_ _), by with_reducible (repeat' first | assumption | refine Own.drew ?_ | refine Own.drewN ?_ _ | (refine Own.at ?_; first | rfl | (simp; done)) | refine Own.past ?_ _), Row.nil _ _⟩
  case round =>
    obtain ⟨i, u, bt, rfl, hii, HBT, hB3, o0, o1, HR⟩ := hrel
    have z3 := hB3.size
    obtain ⟨up, uc, hu, _, _⟩ := Row.slice HR.out
    obtain ⟨m, hm⟩ : ∃ m, (colE (l.take i)).length = m := ⟨_, rfl⟩
    rw [hm] at hu
    subst hu
    have hmi : m = i := by rw [← hm, colE_len, List.length_take, HV.out.len]; omega
    have HM : Hid _ := hm
    have hmn : m ≤ 4096 := by omega
    have HMI : Hid _ := hmi
    clear hm hmi
    have c0 := o0.cell
    have f0 := o0.fro
    have l0 := o0.lt
    have c1 := o1.cell
    have f1 := o1.fro
    have l1 := o1.lt
    by_cases hlt : i < n
    · have hlt' : (i : Int) < n := by omega
      have hlt2 : (i : Int) < 4096 := by omega
      obtain ⟨b, o, hp, hb, hc⟩ := HV.out.at_ (by omega)
      subst hp
      have hai : l[i]? = some (l[i]'(by rw [HV.out.len]; exact hlt)) := List.getElem?_eq_getElem _
      have cx := (hB3.cell (p := ⟨b, o + i, none⟩) hb).trans (hc i _ hai)
      have HAi : Hid _ := hai
      revert HAi cx
      generalize (l[i]'(by rw [HV.out.len]; exact hlt)) = x
      intro cx HAi
      clear hai hc
      have hnb : ¬ b = w.heap.size + 1 := by omega
      have hnb2 : ¬ w.heap.size + 1 = b := by omega
      have HRw : Hid (Row En.cells 7 44 (wr.setCell ⟨w.heap.size + 1, 8, none⟩ (.int .i64 ((i : Int) + 1))).drew (w.heap.size + 2) (.slice up m uc) (colE (l.take i))) := (show Row En.cells 7 44 (wr.setCell ⟨w.heap.size + 1, 8, none⟩ (.int .i64 ((i : Int) + 1))).drew (w.heap.size + 2) (.slice up m uc) (colE (l.take i)) from Row.keep (Row.aside HR.out _ (fun g hg => by have := (Row.lt HR.out g hg).1; show g ≠ w.heap.size + 1; omega)) (Below.refl _ _).drew)
      have hgb : Hid (∀ g, (Value.slice up m uc).ownBlock = some g → w.heap.size + 2 ≤ g) := (show ∀ g, (Value.slice up m uc).ownBlock = some g → w.heap.size + 2 ≤ g from fun g hg => (Row.lt HR.out g hg).1)
      have oz0 : Own (wr.setCell ⟨w.heap.size + 1, 8, none⟩ (.int .i64 ((i : Int) + 1))).drew w.heap.size #[.bool false, .int .i64 0, .int .i64 0, .string ⟨#[]⟩, .bool false, .int .i64 0, .int .i64 0, .int .i64 0, .int .i64 0, .int .i64 0, .slice none 0 0] := (o0.aside (a := ⟨w.heap.size + 1, 8, none⟩) (by show w.heap.size ≠ w.heap.size + 1; omega) _).drew
      have oz1 : Own (wr.setCell ⟨w.heap.size + 1, 8, none⟩ (.int .i64 ((i : Int) + 1))).drew (w.heap.size + 1) #[.bool true, .int .i64 0, .int .i64 0, .string ⟨#[]⟩, .bool false, .int .i64 0, .int .i64 1, .int .i64 1, .int .i64 ((i : Int) + 1), .int .i64 1, .slice up m uc] := (own_put o1 (k := 8) (by simp)).drew
      have hwi : IntKind.i64.wrap ((i : Int) + 1) = (i : Int) + 1 := by rw [IntKind.wrap_i64]; omega
      have mixed : Tryz.prog.follows .mixedOrders = true := by kernel_rfl
      by_cases hxm : x = -9223372036854775808
      · have hfx : fx x = 0 := by unfold fx; rw [if_pos hxm]
        have hone : ∀ u ∈ (#[.int .i64 ((i : Int) + 1), .int .i64 1, .int .i64 1, .int .i64 0, .string ⟨#[]⟩, .bool false, .int .i64 0] : Array Value).toList, u.oneCell' = true := En.one ⟨(i : Int) + 1, 1, 1, 0, ⟨#[]⟩, false, 0⟩
        have HFX : Hid _ := hfx
        clear hfx
        have hxe : (x == -9223372036854775808) = true := by simpa using hxm
        clear hxm
        go_wp2
        refine wp_region_held_drew (S := fun _ => True) (by kernel_rfl) trivial (fun hHeld => ?_)
        refine wpAnyH_take (i := 0) (v := .pointer (some ⟨w.heap.size + 1, 10, none⟩)) rfl (by kernel_rfl) (by kernel_rfl) (by kernel_rfl) (fun _ _ _ h => h) (Or.inl ⟨by first | rfl | kernel_rfl, by intro wz hSw; (try dsimp only at hSw); go_simp⟩) (by assumption) ?_
        (try simp only [Act.put, List.getElem_toArray, List.getElem_cons_succ, List.getElem_cons_zero, List.setIfInBounds_toArray, List.set_cons_zero, List.set_cons_succ])
        refine wpAnyH_take (i := 2) (v := .int .i64 (i : Int)) rfl (by kernel_rfl) (by kernel_rfl) (by kernel_rfl) (fun _ _ _ h => h) (Or.inl ⟨by first | rfl | kernel_rfl, by intro wz hSw; (try dsimp only at hSw); go_simp⟩) (by assumption) ?_
        (try simp only [Act.put, List.getElem_toArray, List.getElem_cons_succ, List.getElem_cons_zero, List.setIfInBounds_toArray, List.set_cons_zero, List.set_cons_succ])
        refine wpAnyH_take (i := 3) (v := .int .i64 ((i : Int) + 1)) rfl (by kernel_rfl) (by kernel_rfl) (by kernel_rfl) (fun _ _ _ h => h) (Or.inl ⟨by first | rfl | kernel_rfl, by intro wz hSw; (try dsimp only at hSw); go_simp⟩) (by assumption) ?_
        (try simp only [Act.put, List.getElem_toArray, List.getElem_cons_succ, List.getElem_cons_zero, List.setIfInBounds_toArray, List.set_cons_zero, List.set_cons_succ])
        refine wpAnyH_take (i := 4) (v := .agg #[.int .i64 ((i : Int) + 1), .int .i64 1]) rfl (by kernel_rfl) (by kernel_rfl) (by kernel_rfl) (fun _ _ _ h => h) (Or.inl ⟨by first | rfl | kernel_rfl, by intro wz hSw; (try dsimp only at hSw); go_simp⟩) (by assumption) ?_
        (try simp only [Act.put, List.getElem_toArray, List.getElem_cons_succ, List.getElem_cons_zero, List.setIfInBounds_toArray, List.set_cons_zero, List.set_cons_succ])
        refine wpAnyH_take (i := 5) (v := .int .i64 0) rfl (by kernel_rfl) (by kernel_rfl) (by kernel_rfl) (fun _ _ _ h => h) (Or.inl ⟨by first | rfl | kernel_rfl, by intro wz hSw; (try dsimp only at hSw); go_simp⟩) (by assumption) ?_
        (try simp only [Act.put, List.getElem_toArray, List.getElem_cons_succ, List.getElem_cons_zero, List.setIfInBounds_toArray, List.set_cons_zero, List.set_cons_succ])
        refine wpAnyH_ready (rs := [1, 6]) (by kernel_rfl) (by simp) ?_
        refine AllReadyH.cons rfl (fun K hK => ?_) ?_
        · go_simp
          refine hK.out _ _ trivial (fun _ => ?_)
          clear hK K
          (try simp only [Act.put, List.getElem_toArray, List.getElem_cons_succ, List.getElem_cons_zero, List.setIfInBounds_toArray, List.set_cons_zero, List.set_cons_succ])
          refine wpAnyH_ready (rs := [6]) (by kernel_rfl) (by simp) ?_
          refine AllReadyH.cons rfl (fun K hK => ?_) ?_
          · go_simp
            (go_at_call 13; refine (number_any _ _).mono ?_; rintro e wn ⟨rfl, hbwn⟩; have hBwn : Below w.heap.size w wn := bup (by with_reducible (repeat' first | assumption | exact Below.refl _ _ | refine Below.drew ?_ | refine bdrewN ?_ _ | refine Below.setCell ?_ (by first | exact Nat.le_refl _ | (simp; done) | (simp; omega) | omega) _ | refine Below.alloc ?_ (by first | exact Nat.le_refl _ | (simp; done) | (simp; omega) | omega) _)) hbwn; have zwn := hBwn.size; have o0wn : Own wn (w.heap.size) #[.bool false, .int .i64 0, .int .i64 0, .string ⟨#[]⟩, .bool false, .int .i64 0, .int .i64 0, .int .i64 0, .int .i64 0, .int .i64 0, .slice none 0 0] := Own.keep (by with_reducible (repeat' first | assumption | refine Own.drew ?_ | refine Own.drewN ?_ _ | (refine Own.at ?_; first | rfl | (simp; done)) | refine Own.past ?_ _)) hbwn; have c0 := o0wn.cell; have f0 := o0wn.fro; have l0 := o0wn.lt; have o1wn : Own wn (w.heap.size + 1) #[.bool true, .int .i64 0, .int .i64 0, .string ⟨#[]⟩, .bool false, .int .i64 0, .int .i64 1, .int .i64 1, .int .i64 ((i : Int) + 1), .int .i64 1, .slice up m uc] := Own.keep (by with_reducible (repeat' first | assumption | refine Own.drew ?_ | refine Own.drewN ?_ _ | (refine Own.at ?_; first | rfl | (simp; done)) | refine Own.past ?_ _)) hbwn; have c1 := o1wn.cell; have f1 := o1wn.fro; have l1 := o1wn.lt; have HRn : Hid (Row En.cells 7 44 wn (w.heap.size + 2) (.slice up m uc) (colE (l.take i))) := (show Row En.cells 7 44 wn (w.heap.size + 2) (.slice up m uc) (colE (l.take i)) from Row.keep HRw.out hbwn); have HOn : Hid (wn.ownsRow (w.heap.size + 2) 44 7 (.slice up m uc) m (flatC En.cells (colE (l.take i)))) := (show wn.ownsRow (w.heap.size + 2) 44 7 (.slice up m uc) m (flatC En.cells (colE (l.take i))) from by have q := HRn.out; unfold Row at q; rw [HM.out] at q; exact q))
            go_wp2_with fail
            refine hK.out _ _ trivial (fun _ => ?_)
            clear hK K
            (try simp only [Act.put, List.getElem_toArray, List.getElem_cons_succ, List.getElem_cons_zero, List.setIfInBounds_toArray, List.set_cons_zero, List.set_cons_succ])
            refine wpAnyH_take (i := 7) (v := .agg #[.int .i64 ((i : Int) + 1), .int .i64 1, .int .i64 1, .int .i64 0, .string ⟨#[]⟩, .bool false, .int .i64 0]) rfl (by kernel_rfl) (by kernel_rfl) (by kernel_rfl) (fun _ _ _ h => h) (Or.inl ⟨by first | rfl | kernel_rfl, by intro wz hSw; (try dsimp only at hSw); go_simp⟩) (by assumption) ?_
            (try simp only [Act.put, List.getElem_toArray, List.getElem_cons_succ, List.getElem_cons_zero, List.setIfInBounds_toArray, List.set_cons_zero, List.set_cons_succ])
            refine wpAnyH_ready (rs := [8]) (by kernel_rfl) (by simp) ?_
            refine AllReadyH.cons rfl (fun K hK => ?_) ?_
            · go_simp
              refine hK.out _ _ trivial (fun _ => ?_)
              clear hK K
              (try simp only [Act.put, List.getElem_toArray, List.getElem_cons_succ, List.getElem_cons_zero, List.setIfInBounds_toArray, List.set_cons_zero, List.set_cons_succ])
              refine wpAnyH_ready (rs := [9]) (by kernel_rfl) (by simp) ?_
              refine AllReadyH.cons rfl (fun K hK => ?_) ?_
              · refine step_append_lies _ rfl (.tmp 29) (.tmp 36) 36 rfl (w.heap.size + 2) 44 i0 _ 7 64 Tryz.underlying36 HI.out HZ0.out HZ1.out HZ2.out rfl (by decide) (.slice up m uc) m (flatC En.cells (colE (l.take i))) (by simp [Act.eval, Act.put]) (HOn.out.alloc _) ⟨wn.heap.size, 0, none⟩ 1 1 (#[.int .i64 ((i : Int) + 1), .int .i64 1, .int .i64 1, .int .i64 0, .string ⟨#[]⟩, .bool false, .int .i64 0] : Array Value).toList (by simp [Act.eval, Act.put]) rfl (by exact news_pl _ _ _) (hone) (by decide) (by unfold maxLen; omega) (by omega) (by simp; omega) (wn.heap.size + 1) (by simp) ?_
                intro g5 cap5 w5 hown5 hgrow5 hat5 hlt5
                have p0 : Own w5 w.heap.size #[.bool false, .int .i64 0, .int .i64 0, .string ⟨#[]⟩, .bool false, .int .i64 0, .int .i64 0, .int .i64 0, .int .i64 0, .int .i64 0, .slice none 0 0] := own_grown (Own.past o0wn _) hgrow5 (fun g hg => by have := hgb.out g hg; omega)
                have p1 : Own w5 (w.heap.size + 1) #[.bool true, .int .i64 0, .int .i64 0, .string ⟨#[]⟩, .bool false, .int .i64 0, .int .i64 1, .int .i64 1, .int .i64 ((i : Int) + 1), .int .i64 1, .slice up m uc] := own_grown (Own.past o1wn _) hgrow5 (fun g hg => by have := hgb.out g hg; omega)
                have q1 := p1.cell
                have r1 := p1.fro
                have s1 := p1.lt
                have HG5 : Hid _ := hgrow5
                have HO5 : Hid _ := hown5
                clear hgrow5 hown5
                refine hK.out _ _ trivial (fun _ => ?_)
                clear hK K
                (try simp only [Act.put, List.getElem_toArray, List.getElem_cons_succ, List.getElem_cons_zero, List.setIfInBounds_toArray, List.set_cons_zero, List.set_cons_succ])
                refine wpAnyH_take (i := 10) (v := .pointer (some ⟨w.heap.size + 1, 10, none⟩)) rfl (by kernel_rfl) (by kernel_rfl) (by kernel_rfl) (fun _ _ _ h => h) (Or.inl ⟨by first | rfl | kernel_rfl, by intro wz hSw; (try dsimp only at hSw); go_simp⟩) (by assumption) ?_
                (try simp only [Act.put, List.getElem_toArray, List.getElem_cons_succ, List.getElem_cons_zero, List.setIfInBounds_toArray, List.set_cons_zero, List.set_cons_succ])
                refine wpAnyH_ready (rs := [11]) (by kernel_rfl) (by simp) ?_
                refine AllReadyH.cons rfl (fun K hK => ?_) ?_
                · go_simp
                  refine hK.out _ _ trivial (fun _ => ?_)
                  clear hK K
                  (try simp only [Act.put, List.getElem_toArray, List.getElem_cons_succ, List.getElem_cons_zero, List.setIfInBounds_toArray, List.set_cons_zero, List.set_cons_succ])
                  refine wpAnyH_done (by kernel_rfl) ?_ _
                  go_wp2
                  have hBn5 : Below w.heap.size w w5 := Below.grown (hBwn.alloc (by omega) _) HG5.out (Below.size (hBwn.alloc (by omega) _)) (fun k hk => by have := hgb.out k hk; omega)
                  have hrow5 : Row En.cells 7 44 w5 (w.heap.size + 2) (.slice (some ⟨g5, 0, none⟩) (m + 1) cap5) (colE (l.take (i + 1))) := by
                    have e : En.cells (enAt i x) = #[.int .i64 ((i : Int) + 1), .int .i64 1, .int .i64 1, .int .i64 0, .string ⟨#[]⟩, .bool false, .int .i64 0] := by unfold enAt; rw [HFX.out]; rfl
                    rw [colE_snoc HAi.out]
                    unfold Row
                    rw [flatC_snoc, List.length_append, HM.out, e]
                    exact HO5.out
                  refine ⟨⟨i + 1, .slice (some ⟨g5, 0, none⟩) (m + 1) cap5, (i : Int) + 1, by go_num, by omega, (show Hid _ from btm_succ i), hBn5.setCell (p := ⟨w.heap.size + 1, 10, none⟩) (by show w.heap.size ≤ w.heap.size + 1; omega) _, p0.aside (a := ⟨w.heap.size + 1, 10, none⟩) (by show w.heap.size ≠ w.heap.size + 1; omega) _, own_put p1 (k := 10) (by simp), (show Hid _ from Row.aside hrow5 _ (fun g hg => by have := (Row.lt hrow5 g hg).1; show g ≠ w.heap.size + 1; omega))⟩, by simp [intOf]; omega⟩
                exact AllReadyH.nil
              exact AllReadyH.nil
            exact AllReadyH.nil
          exact AllReadyH.nil
        refine AllReadyH.cons rfl (fun K hK => ?_) ?_
        · go_simp
          (go_at_call 13; refine (number_any _ _).mono ?_; rintro e wn ⟨rfl, hbwn⟩; have hBwn : Below w.heap.size w wn := bup (by with_reducible (repeat' first | assumption | exact Below.refl _ _ | refine Below.drew ?_ | refine bdrewN ?_ _ | refine Below.setCell ?_ (by first | exact Nat.le_refl _ | (simp; done) | (simp; omega) | omega) _ | refine Below.alloc ?_ (by first | exact Nat.le_refl _ | (simp; done) | (simp; omega) | omega) _)) hbwn; have zwn := hBwn.size; have o0wn : Own wn (w.heap.size) #[.bool false, .int .i64 0, .int .i64 0, .string ⟨#[]⟩, .bool false, .int .i64 0, .int .i64 0, .int .i64 0, .int .i64 0, .int .i64 0, .slice none 0 0] := Own.keep (by with_reducible (repeat' first | assumption | refine Own.drew ?_ | refine Own.drewN ?_ _ | (refine Own.at ?_; first | rfl | (simp; done)) | refine Own.past ?_ _)) hbwn; have c0 := o0wn.cell; have f0 := o0wn.fro; have l0 := o0wn.lt; have o1wn : Own wn (w.heap.size + 1) #[.bool true, .int .i64 0, .int .i64 0, .string ⟨#[]⟩, .bool false, .int .i64 0, .int .i64 1, .int .i64 1, .int .i64 ((i : Int) + 1), .int .i64 1, .slice up m uc] := Own.keep (by with_reducible (repeat' first | assumption | refine Own.drew ?_ | refine Own.drewN ?_ _ | (refine Own.at ?_; first | rfl | (simp; done)) | refine Own.past ?_ _)) hbwn; have c1 := o1wn.cell; have f1 := o1wn.fro; have l1 := o1wn.lt; have HRn : Hid (Row En.cells 7 44 wn (w.heap.size + 2) (.slice up m uc) (colE (l.take i))) := (show Row En.cells 7 44 wn (w.heap.size + 2) (.slice up m uc) (colE (l.take i)) from Row.keep HRw.out hbwn); have HOn : Hid (wn.ownsRow (w.heap.size + 2) 44 7 (.slice up m uc) m (flatC En.cells (colE (l.take i)))) := (show wn.ownsRow (w.heap.size + 2) 44 7 (.slice up m uc) m (flatC En.cells (colE (l.take i))) from by have q := HRn.out; unfold Row at q; rw [HM.out] at q; exact q))
          go_wp2_with fail
          refine hK.out _ _ trivial (fun _ => ?_)
          clear hK K
          (try simp only [Act.put, List.getElem_toArray, List.getElem_cons_succ, List.getElem_cons_zero, List.setIfInBounds_toArray, List.set_cons_zero, List.set_cons_succ])
          refine wpAnyH_take (i := 7) (v := .agg #[.int .i64 ((i : Int) + 1), .int .i64 1, .int .i64 1, .int .i64 0, .string ⟨#[]⟩, .bool false, .int .i64 0]) rfl (by kernel_rfl) (by kernel_rfl) (by kernel_rfl) (fun _ _ _ h => h) (Or.inl ⟨by first | rfl | kernel_rfl, by intro wz hSw; (try dsimp only at hSw); go_simp⟩) (by assumption) ?_
          (try simp only [Act.put, List.getElem_toArray, List.getElem_cons_succ, List.getElem_cons_zero, List.setIfInBounds_toArray, List.set_cons_zero, List.set_cons_succ])
          refine wpAnyH_ready (rs := [1, 8]) (by kernel_rfl) (by simp) ?_
          refine AllReadyH.cons rfl (fun K hK => ?_) ?_
          · go_simp
            refine hK.out _ _ trivial (fun _ => ?_)
            clear hK K
            (try simp only [Act.put, List.getElem_toArray, List.getElem_cons_succ, List.getElem_cons_zero, List.setIfInBounds_toArray, List.set_cons_zero, List.set_cons_succ])
            refine wpAnyH_ready (rs := [8]) (by kernel_rfl) (by simp) ?_
            refine AllReadyH.cons rfl (fun K hK => ?_) ?_
            · go_simp
              refine hK.out _ _ trivial (fun _ => ?_)
              clear hK K
              (try simp only [Act.put, List.getElem_toArray, List.getElem_cons_succ, List.getElem_cons_zero, List.setIfInBounds_toArray, List.set_cons_zero, List.set_cons_succ])
              refine wpAnyH_ready (rs := [9]) (by kernel_rfl) (by simp) ?_
              refine AllReadyH.cons rfl (fun K hK => ?_) ?_
              · refine step_append_lies _ rfl (.tmp 29) (.tmp 36) 36 rfl (w.heap.size + 2) 44 i0 _ 7 64 Tryz.underlying36 HI.out HZ0.out HZ1.out HZ2.out rfl (by decide) (.slice up m uc) m (flatC En.cells (colE (l.take i))) (by simp [Act.eval, Act.put]) (HOn.out.alloc _) ⟨wn.heap.size, 0, none⟩ 1 1 (#[.int .i64 ((i : Int) + 1), .int .i64 1, .int .i64 1, .int .i64 0, .string ⟨#[]⟩, .bool false, .int .i64 0] : Array Value).toList (by simp [Act.eval, Act.put]) rfl (by exact news_pl _ _ _) (hone) (by decide) (by unfold maxLen; omega) (by omega) (by simp; omega) (wn.heap.size + 1) (by simp) ?_
                intro g5 cap5 w5 hown5 hgrow5 hat5 hlt5
                have p0 : Own w5 w.heap.size #[.bool false, .int .i64 0, .int .i64 0, .string ⟨#[]⟩, .bool false, .int .i64 0, .int .i64 0, .int .i64 0, .int .i64 0, .int .i64 0, .slice none 0 0] := own_grown (Own.past o0wn _) hgrow5 (fun g hg => by have := hgb.out g hg; omega)
                have p1 : Own w5 (w.heap.size + 1) #[.bool true, .int .i64 0, .int .i64 0, .string ⟨#[]⟩, .bool false, .int .i64 0, .int .i64 1, .int .i64 1, .int .i64 ((i : Int) + 1), .int .i64 1, .slice up m uc] := own_grown (Own.past o1wn _) hgrow5 (fun g hg => by have := hgb.out g hg; omega)
                have q1 := p1.cell
                have r1 := p1.fro
                have s1 := p1.lt
                have HG5 : Hid _ := hgrow5
                have HO5 : Hid _ := hown5
                clear hgrow5 hown5
                refine hK.out _ _ trivial (fun _ => ?_)
                clear hK K
                (try simp only [Act.put, List.getElem_toArray, List.getElem_cons_succ, List.getElem_cons_zero, List.setIfInBounds_toArray, List.set_cons_zero, List.set_cons_succ])
                refine wpAnyH_take (i := 10) (v := .pointer (some ⟨w.heap.size + 1, 10, none⟩)) rfl (by kernel_rfl) (by kernel_rfl) (by kernel_rfl) (fun _ _ _ h => h) (Or.inl ⟨by first | rfl | kernel_rfl, by intro wz hSw; (try dsimp only at hSw); go_simp⟩) (by assumption) ?_
                (try simp only [Act.put, List.getElem_toArray, List.getElem_cons_succ, List.getElem_cons_zero, List.setIfInBounds_toArray, List.set_cons_zero, List.set_cons_succ])
                refine wpAnyH_ready (rs := [11]) (by kernel_rfl) (by simp) ?_
                refine AllReadyH.cons rfl (fun K hK => ?_) ?_
                · go_simp
                  refine hK.out _ _ trivial (fun _ => ?_)
                  clear hK K
                  (try simp only [Act.put, List.getElem_toArray, List.getElem_cons_succ, List.getElem_cons_zero, List.setIfInBounds_toArray, List.set_cons_zero, List.set_cons_succ])
                  refine wpAnyH_done (by kernel_rfl) ?_ _
                  go_wp2
                  have hBn5 : Below w.heap.size w w5 := Below.grown (hBwn.alloc (by omega) _) HG5.out (Below.size (hBwn.alloc (by omega) _)) (fun k hk => by have := hgb.out k hk; omega)
                  have hrow5 : Row En.cells 7 44 w5 (w.heap.size + 2) (.slice (some ⟨g5, 0, none⟩) (m + 1) cap5) (colE (l.take (i + 1))) := by
                    have e : En.cells (enAt i x) = #[.int .i64 ((i : Int) + 1), .int .i64 1, .int .i64 1, .int .i64 0, .string ⟨#[]⟩, .bool false, .int .i64 0] := by unfold enAt; rw [HFX.out]; rfl
                    rw [colE_snoc HAi.out]
                    unfold Row
                    rw [flatC_snoc, List.length_append, HM.out, e]
                    exact HO5.out
                  refine ⟨⟨i + 1, .slice (some ⟨g5, 0, none⟩) (m + 1) cap5, (i : Int) + 1, by go_num, by omega, (show Hid _ from btm_succ i), hBn5.setCell (p := ⟨w.heap.size + 1, 10, none⟩) (by show w.heap.size ≤ w.heap.size + 1; omega) _, p0.aside (a := ⟨w.heap.size + 1, 10, none⟩) (by show w.heap.size ≠ w.heap.size + 1; omega) _, own_put p1 (k := 10) (by simp), (show Hid _ from Row.aside hrow5 _ (fun g hg => by have := (Row.lt hrow5 g hg).1; show g ≠ w.heap.size + 1; omega))⟩, by simp [intOf]; omega⟩
                exact AllReadyH.nil
              exact AllReadyH.nil
            exact AllReadyH.nil
          refine AllReadyH.cons rfl (fun K hK => ?_) ?_
          · go_simp
            refine hK.out _ _ trivial (fun _ => ?_)
            clear hK K
            (try simp only [Act.put, List.getElem_toArray, List.getElem_cons_succ, List.getElem_cons_zero, List.setIfInBounds_toArray, List.set_cons_zero, List.set_cons_succ])
            refine wpAnyH_ready (rs := [1]) (by kernel_rfl) (by simp) ?_
            refine AllReadyH.cons rfl (fun K hK => ?_) ?_
            · go_simp
              refine hK.out _ _ trivial (fun _ => ?_)
              clear hK K
              (try simp only [Act.put, List.getElem_toArray, List.getElem_cons_succ, List.getElem_cons_zero, List.setIfInBounds_toArray, List.set_cons_zero, List.set_cons_succ])
              refine wpAnyH_ready (rs := [9]) (by kernel_rfl) (by simp) ?_
              refine AllReadyH.cons rfl (fun K hK => ?_) ?_
              · refine step_append_lies _ rfl (.tmp 29) (.tmp 36) 36 rfl (w.heap.size + 2) 44 i0 _ 7 64 Tryz.underlying36 HI.out HZ0.out HZ1.out HZ2.out rfl (by decide) (.slice up m uc) m (flatC En.cells (colE (l.take i))) (by simp [Act.eval, Act.put]) (HOn.out.alloc _) ⟨wn.heap.size, 0, none⟩ 1 1 (#[.int .i64 ((i : Int) + 1), .int .i64 1, .int .i64 1, .int .i64 0, .string ⟨#[]⟩, .bool false, .int .i64 0] : Array Value).toList (by simp [Act.eval, Act.put]) rfl (by exact news_pl _ _ _) (hone) (by decide) (by unfold maxLen; omega) (by omega) (by simp; omega) (wn.heap.size + 1) (by simp) ?_
                intro g5 cap5 w5 hown5 hgrow5 hat5 hlt5
                have p0 : Own w5 w.heap.size #[.bool false, .int .i64 0, .int .i64 0, .string ⟨#[]⟩, .bool false, .int .i64 0, .int .i64 0, .int .i64 0, .int .i64 0, .int .i64 0, .slice none 0 0] := own_grown (Own.past o0wn _) hgrow5 (fun g hg => by have := hgb.out g hg; omega)
                have p1 : Own w5 (w.heap.size + 1) #[.bool true, .int .i64 0, .int .i64 0, .string ⟨#[]⟩, .bool false, .int .i64 0, .int .i64 1, .int .i64 1, .int .i64 ((i : Int) + 1), .int .i64 1, .slice up m uc] := own_grown (Own.past o1wn _) hgrow5 (fun g hg => by have := hgb.out g hg; omega)
                have q1 := p1.cell
                have r1 := p1.fro
                have s1 := p1.lt
                have HG5 : Hid _ := hgrow5
                have HO5 : Hid _ := hown5
                clear hgrow5 hown5
                refine hK.out _ _ trivial (fun _ => ?_)
                clear hK K
                (try simp only [Act.put, List.getElem_toArray, List.getElem_cons_succ, List.getElem_cons_zero, List.setIfInBounds_toArray, List.set_cons_zero, List.set_cons_succ])
                refine wpAnyH_take (i := 10) (v := .pointer (some ⟨w.heap.size + 1, 10, none⟩)) rfl (by kernel_rfl) (by kernel_rfl) (by kernel_rfl) (fun _ _ _ h => h) (Or.inl ⟨by first | rfl | kernel_rfl, by intro wz hSw; (try dsimp only at hSw); go_simp⟩) (by assumption) ?_
                (try simp only [Act.put, List.getElem_toArray, List.getElem_cons_succ, List.getElem_cons_zero, List.setIfInBounds_toArray, List.set_cons_zero, List.set_cons_succ])
                refine wpAnyH_ready (rs := [11]) (by kernel_rfl) (by simp) ?_
                refine AllReadyH.cons rfl (fun K hK => ?_) ?_
                · go_simp
                  refine hK.out _ _ trivial (fun _ => ?_)
                  clear hK K
                  (try simp only [Act.put, List.getElem_toArray, List.getElem_cons_succ, List.getElem_cons_zero, List.setIfInBounds_toArray, List.set_cons_zero, List.set_cons_succ])
                  refine wpAnyH_done (by kernel_rfl) ?_ _
                  go_wp2
                  have hBn5 : Below w.heap.size w w5 := Below.grown (hBwn.alloc (by omega) _) HG5.out (Below.size (hBwn.alloc (by omega) _)) (fun k hk => by have := hgb.out k hk; omega)
                  have hrow5 : Row En.cells 7 44 w5 (w.heap.size + 2) (.slice (some ⟨g5, 0, none⟩) (m + 1) cap5) (colE (l.take (i + 1))) := by
                    have e : En.cells (enAt i x) = #[.int .i64 ((i : Int) + 1), .int .i64 1, .int .i64 1, .int .i64 0, .string ⟨#[]⟩, .bool false, .int .i64 0] := by unfold enAt; rw [HFX.out]; rfl
                    rw [colE_snoc HAi.out]
                    unfold Row
                    rw [flatC_snoc, List.length_append, HM.out, e]
                    exact HO5.out
                  refine ⟨⟨i + 1, .slice (some ⟨g5, 0, none⟩) (m + 1) cap5, (i : Int) + 1, by go_num, by omega, (show Hid _ from btm_succ i), hBn5.setCell (p := ⟨w.heap.size + 1, 10, none⟩) (by show w.heap.size ≤ w.heap.size + 1; omega) _, p0.aside (a := ⟨w.heap.size + 1, 10, none⟩) (by show w.heap.size ≠ w.heap.size + 1; omega) _, own_put p1 (k := 10) (by simp), (show Hid _ from Row.aside hrow5 _ (fun g hg => by have := (Row.lt hrow5 g hg).1; show g ≠ w.heap.size + 1; omega))⟩, by simp [intOf]; omega⟩
                exact AllReadyH.nil
              exact AllReadyH.nil
            exact AllReadyH.nil
          exact AllReadyH.nil
        exact AllReadyH.nil
      · have hfx : fx x = x := by unfold fx; rw [if_neg hxm]
        have hxe : (x == -9223372036854775808) = false := by simpa using hxm
        have hone : ∀ u ∈ (#[.int .i64 ((i : Int) + 1), .int .i64 1, .int .i64 1, .int .i64 x, .string ⟨#[]⟩, .bool false, .int .i64 0] : Array Value).toList, u.oneCell' = true := En.one ⟨(i : Int) + 1, 1, 1, x, ⟨#[]⟩, false, 0⟩
        have HFX : Hid _ := hfx
        clear hfx
        go_wp2
        refine wp_region_held_drew (S := fun _ => True) (by kernel_rfl) trivial (fun hHeld => ?_)
        refine wpAnyH_take (i := 0) (v := .pointer (some ⟨w.heap.size + 1, 10, none⟩)) rfl (by kernel_rfl) (by kernel_rfl) (by kernel_rfl) (fun _ _ _ h => h) (Or.inl ⟨by first | rfl | kernel_rfl, by intro wz hSw; (try dsimp only at hSw); go_simp⟩) (by assumption) ?_
        (try simp only [Act.put, List.getElem_toArray, List.getElem_cons_succ, List.getElem_cons_zero, List.setIfInBounds_toArray, List.set_cons_zero, List.set_cons_succ])
        refine wpAnyH_take (i := 2) (v := .int .i64 (i : Int)) rfl (by kernel_rfl) (by kernel_rfl) (by kernel_rfl) (fun _ _ _ h => h) (Or.inl ⟨by first | rfl | kernel_rfl, by intro wz hSw; (try dsimp only at hSw); go_simp⟩) (by assumption) ?_
        (try simp only [Act.put, List.getElem_toArray, List.getElem_cons_succ, List.getElem_cons_zero, List.setIfInBounds_toArray, List.set_cons_zero, List.set_cons_succ])
        refine wpAnyH_take (i := 3) (v := .int .i64 ((i : Int) + 1)) rfl (by kernel_rfl) (by kernel_rfl) (by kernel_rfl) (fun _ _ _ h => h) (Or.inl ⟨by first | rfl | kernel_rfl, by intro wz hSw; (try dsimp only at hSw); go_simp⟩) (by assumption) ?_
        (try simp only [Act.put, List.getElem_toArray, List.getElem_cons_succ, List.getElem_cons_zero, List.setIfInBounds_toArray, List.set_cons_zero, List.set_cons_succ])
        refine wpAnyH_take (i := 4) (v := .agg #[.int .i64 ((i : Int) + 1), .int .i64 1]) rfl (by kernel_rfl) (by kernel_rfl) (by kernel_rfl) (fun _ _ _ h => h) (Or.inl ⟨by first | rfl | kernel_rfl, by intro wz hSw; (try dsimp only at hSw); go_simp⟩) (by assumption) ?_
        (try simp only [Act.put, List.getElem_toArray, List.getElem_cons_succ, List.getElem_cons_zero, List.setIfInBounds_toArray, List.set_cons_zero, List.set_cons_succ])
        refine wpAnyH_take (i := 5) (v := .int .i64 x) rfl (by kernel_rfl) (by kernel_rfl) (by kernel_rfl) (fun _ _ _ h => h) (Or.inl ⟨by first | rfl | kernel_rfl, by intro wz hSw; (try dsimp only at hSw); go_simp⟩) (by assumption) ?_
        (try simp only [Act.put, List.getElem_toArray, List.getElem_cons_succ, List.getElem_cons_zero, List.setIfInBounds_toArray, List.set_cons_zero, List.set_cons_succ])
        refine wpAnyH_ready (rs := [1, 6]) (by kernel_rfl) (by simp) ?_
        refine AllReadyH.cons rfl (fun K hK => ?_) ?_
        · go_simp
          refine hK.out _ _ trivial (fun _ => ?_)
          clear hK K
          (try simp only [Act.put, List.getElem_toArray, List.getElem_cons_succ, List.getElem_cons_zero, List.setIfInBounds_toArray, List.set_cons_zero, List.set_cons_succ])
          refine wpAnyH_ready (rs := [6]) (by kernel_rfl) (by simp) ?_
          refine AllReadyH.cons rfl (fun K hK => ?_) ?_
          · go_simp
            (go_at_call 13; refine (number_any _ _).mono ?_; rintro e wn ⟨rfl, hbwn⟩; have hBwn : Below w.heap.size w wn := bup (by with_reducible (repeat' first | assumption | exact Below.refl _ _ | refine Below.drew ?_ | refine bdrewN ?_ _ | refine Below.setCell ?_ (by first | exact Nat.le_refl _ | (simp; done) | (simp; omega) | omega) _ | refine Below.alloc ?_ (by first | exact Nat.le_refl _ | (simp; done) | (simp; omega) | omega) _)) hbwn; have zwn := hBwn.size; have o0wn : Own wn (w.heap.size) #[.bool false, .int .i64 0, .int .i64 0, .string ⟨#[]⟩, .bool false, .int .i64 0, .int .i64 0, .int .i64 0, .int .i64 0, .int .i64 0, .slice none 0 0] := Own.keep (by with_reducible (repeat' first | assumption | refine Own.drew ?_ | refine Own.drewN ?_ _ | (refine Own.at ?_; first | rfl | (simp; done)) | refine Own.past ?_ _)) hbwn; have c0 := o0wn.cell; have f0 := o0wn.fro; have l0 := o0wn.lt; have o1wn : Own wn (w.heap.size + 1) #[.bool true, .int .i64 0, .int .i64 0, .string ⟨#[]⟩, .bool false, .int .i64 0, .int .i64 1, .int .i64 1, .int .i64 ((i : Int) + 1), .int .i64 1, .slice up m uc] := Own.keep (by with_reducible (repeat' first | assumption | refine Own.drew ?_ | refine Own.drewN ?_ _ | (refine Own.at ?_; first | rfl | (simp; done)) | refine Own.past ?_ _)) hbwn; have c1 := o1wn.cell; have f1 := o1wn.fro; have l1 := o1wn.lt; have HRn : Hid (Row En.cells 7 44 wn (w.heap.size + 2) (.slice up m uc) (colE (l.take i))) := (show Row En.cells 7 44 wn (w.heap.size + 2) (.slice up m uc) (colE (l.take i)) from Row.keep HRw.out hbwn); have HOn : Hid (wn.ownsRow (w.heap.size + 2) 44 7 (.slice up m uc) m (flatC En.cells (colE (l.take i)))) := (show wn.ownsRow (w.heap.size + 2) 44 7 (.slice up m uc) m (flatC En.cells (colE (l.take i))) from by have q := HRn.out; unfold Row at q; rw [HM.out] at q; exact q))
            go_wp2_with fail
            refine hK.out _ _ trivial (fun _ => ?_)
            clear hK K
            (try simp only [Act.put, List.getElem_toArray, List.getElem_cons_succ, List.getElem_cons_zero, List.setIfInBounds_toArray, List.set_cons_zero, List.set_cons_succ])
            refine wpAnyH_take (i := 7) (v := .agg #[.int .i64 ((i : Int) + 1), .int .i64 1, .int .i64 1, .int .i64 x, .string ⟨#[]⟩, .bool false, .int .i64 0]) rfl (by kernel_rfl) (by kernel_rfl) (by kernel_rfl) (fun _ _ _ h => h) (Or.inl ⟨by first | rfl | kernel_rfl, by intro wz hSw; (try dsimp only at hSw); go_simp⟩) (by assumption) ?_
            (try simp only [Act.put, List.getElem_toArray, List.getElem_cons_succ, List.getElem_cons_zero, List.setIfInBounds_toArray, List.set_cons_zero, List.set_cons_succ])
            refine wpAnyH_ready (rs := [8]) (by kernel_rfl) (by simp) ?_
            refine AllReadyH.cons rfl (fun K hK => ?_) ?_
            · go_simp
              refine hK.out _ _ trivial (fun _ => ?_)
              clear hK K
              (try simp only [Act.put, List.getElem_toArray, List.getElem_cons_succ, List.getElem_cons_zero, List.setIfInBounds_toArray, List.set_cons_zero, List.set_cons_succ])
              refine wpAnyH_ready (rs := [9]) (by kernel_rfl) (by simp) ?_
              refine AllReadyH.cons rfl (fun K hK => ?_) ?_
              · refine step_append_lies _ rfl (.tmp 29) (.tmp 36) 36 rfl (w.heap.size + 2) 44 i0 _ 7 64 Tryz.underlying36 HI.out HZ0.out HZ1.out HZ2.out rfl (by decide) (.slice up m uc) m (flatC En.cells (colE (l.take i))) (by simp [Act.eval, Act.put]) (HOn.out.alloc _) ⟨wn.heap.size, 0, none⟩ 1 1 (#[.int .i64 ((i : Int) + 1), .int .i64 1, .int .i64 1, .int .i64 x, .string ⟨#[]⟩, .bool false, .int .i64 0] : Array Value).toList (by simp [Act.eval, Act.put]) rfl (by exact news_pl _ _ _) (hone) (by decide) (by unfold maxLen; omega) (by omega) (by simp; omega) (wn.heap.size + 1) (by simp) ?_
                intro g5 cap5 w5 hown5 hgrow5 hat5 hlt5
                have p0 : Own w5 w.heap.size #[.bool false, .int .i64 0, .int .i64 0, .string ⟨#[]⟩, .bool false, .int .i64 0, .int .i64 0, .int .i64 0, .int .i64 0, .int .i64 0, .slice none 0 0] := own_grown (Own.past o0wn _) hgrow5 (fun g hg => by have := hgb.out g hg; omega)
                have p1 : Own w5 (w.heap.size + 1) #[.bool true, .int .i64 0, .int .i64 0, .string ⟨#[]⟩, .bool false, .int .i64 0, .int .i64 1, .int .i64 1, .int .i64 ((i : Int) + 1), .int .i64 1, .slice up m uc] := own_grown (Own.past o1wn _) hgrow5 (fun g hg => by have := hgb.out g hg; omega)
                have q1 := p1.cell
                have r1 := p1.fro
                have s1 := p1.lt
                have HG5 : Hid _ := hgrow5
                have HO5 : Hid _ := hown5
                clear hgrow5 hown5
                refine hK.out _ _ trivial (fun _ => ?_)
                clear hK K
                (try simp only [Act.put, List.getElem_toArray, List.getElem_cons_succ, List.getElem_cons_zero, List.setIfInBounds_toArray, List.set_cons_zero, List.set_cons_succ])
                refine wpAnyH_take (i := 10) (v := .pointer (some ⟨w.heap.size + 1, 10, none⟩)) rfl (by kernel_rfl) (by kernel_rfl) (by kernel_rfl) (fun _ _ _ h => h) (Or.inl ⟨by first | rfl | kernel_rfl, by intro wz hSw; (try dsimp only at hSw); go_simp⟩) (by assumption) ?_
                (try simp only [Act.put, List.getElem_toArray, List.getElem_cons_succ, List.getElem_cons_zero, List.setIfInBounds_toArray, List.set_cons_zero, List.set_cons_succ])
                refine wpAnyH_ready (rs := [11]) (by kernel_rfl) (by simp) ?_
                refine AllReadyH.cons rfl (fun K hK => ?_) ?_
                · go_simp
                  refine hK.out _ _ trivial (fun _ => ?_)
                  clear hK K
                  (try simp only [Act.put, List.getElem_toArray, List.getElem_cons_succ, List.getElem_cons_zero, List.setIfInBounds_toArray, List.set_cons_zero, List.set_cons_succ])
                  refine wpAnyH_done (by kernel_rfl) ?_ _
                  go_wp2
                  have hBn5 : Below w.heap.size w w5 := Below.grown (hBwn.alloc (by omega) _) HG5.out (Below.size (hBwn.alloc (by omega) _)) (fun k hk => by have := hgb.out k hk; omega)
                  have hrow5 : Row En.cells 7 44 w5 (w.heap.size + 2) (.slice (some ⟨g5, 0, none⟩) (m + 1) cap5) (colE (l.take (i + 1))) := by
                    have e : En.cells (enAt i x) = #[.int .i64 ((i : Int) + 1), .int .i64 1, .int .i64 1, .int .i64 x, .string ⟨#[]⟩, .bool false, .int .i64 0] := by unfold enAt; rw [HFX.out]; rfl
                    rw [colE_snoc HAi.out]
                    unfold Row
                    rw [flatC_snoc, List.length_append, HM.out, e]
                    exact HO5.out
                  refine ⟨⟨i + 1, .slice (some ⟨g5, 0, none⟩) (m + 1) cap5, (i : Int) + 1, by go_num, by omega, (show Hid _ from btm_succ i), hBn5.setCell (p := ⟨w.heap.size + 1, 10, none⟩) (by show w.heap.size ≤ w.heap.size + 1; omega) _, p0.aside (a := ⟨w.heap.size + 1, 10, none⟩) (by show w.heap.size ≠ w.heap.size + 1; omega) _, own_put p1 (k := 10) (by simp), (show Hid _ from Row.aside hrow5 _ (fun g hg => by have := (Row.lt hrow5 g hg).1; show g ≠ w.heap.size + 1; omega))⟩, by simp [intOf]; omega⟩
                exact AllReadyH.nil
              exact AllReadyH.nil
            exact AllReadyH.nil
          exact AllReadyH.nil
        refine AllReadyH.cons rfl (fun K hK => ?_) ?_
        · go_simp
          (go_at_call 13; refine (number_any _ _).mono ?_; rintro e wn ⟨rfl, hbwn⟩; have hBwn : Below w.heap.size w wn := bup (by with_reducible (repeat' first | assumption | exact Below.refl _ _ | refine Below.drew ?_ | refine bdrewN ?_ _ | refine Below.setCell ?_ (by first | exact Nat.le_refl _ | (simp; done) | (simp; omega) | omega) _ | refine Below.alloc ?_ (by first | exact Nat.le_refl _ | (simp; done) | (simp; omega) | omega) _)) hbwn; have zwn := hBwn.size; have o0wn : Own wn (w.heap.size) #[.bool false, .int .i64 0, .int .i64 0, .string ⟨#[]⟩, .bool false, .int .i64 0, .int .i64 0, .int .i64 0, .int .i64 0, .int .i64 0, .slice none 0 0] := Own.keep (by with_reducible (repeat' first | assumption | refine Own.drew ?_ | refine Own.drewN ?_ _ | (refine Own.at ?_; first | rfl | (simp; done)) | refine Own.past ?_ _)) hbwn; have c0 := o0wn.cell; have f0 := o0wn.fro; have l0 := o0wn.lt; have o1wn : Own wn (w.heap.size + 1) #[.bool true, .int .i64 0, .int .i64 0, .string ⟨#[]⟩, .bool false, .int .i64 0, .int .i64 1, .int .i64 1, .int .i64 ((i : Int) + 1), .int .i64 1, .slice up m uc] := Own.keep (by with_reducible (repeat' first | assumption | refine Own.drew ?_ | refine Own.drewN ?_ _ | (refine Own.at ?_; first | rfl | (simp; done)) | refine Own.past ?_ _)) hbwn; have c1 := o1wn.cell; have f1 := o1wn.fro; have l1 := o1wn.lt; have HRn : Hid (Row En.cells 7 44 wn (w.heap.size + 2) (.slice up m uc) (colE (l.take i))) := (show Row En.cells 7 44 wn (w.heap.size + 2) (.slice up m uc) (colE (l.take i)) from Row.keep HRw.out hbwn); have HOn : Hid (wn.ownsRow (w.heap.size + 2) 44 7 (.slice up m uc) m (flatC En.cells (colE (l.take i)))) := (show wn.ownsRow (w.heap.size + 2) 44 7 (.slice up m uc) m (flatC En.cells (colE (l.take i))) from by have q := HRn.out; unfold Row at q; rw [HM.out] at q; exact q))
          go_wp2_with fail
          refine hK.out _ _ trivial (fun _ => ?_)
          clear hK K
          (try simp only [Act.put, List.getElem_toArray, List.getElem_cons_succ, List.getElem_cons_zero, List.setIfInBounds_toArray, List.set_cons_zero, List.set_cons_succ])
          refine wpAnyH_take (i := 7) (v := .agg #[.int .i64 ((i : Int) + 1), .int .i64 1, .int .i64 1, .int .i64 x, .string ⟨#[]⟩, .bool false, .int .i64 0]) rfl (by kernel_rfl) (by kernel_rfl) (by kernel_rfl) (fun _ _ _ h => h) (Or.inl ⟨by first | rfl | kernel_rfl, by intro wz hSw; (try dsimp only at hSw); go_simp⟩) (by assumption) ?_
          (try simp only [Act.put, List.getElem_toArray, List.getElem_cons_succ, List.getElem_cons_zero, List.setIfInBounds_toArray, List.set_cons_zero, List.set_cons_succ])
          refine wpAnyH_ready (rs := [1, 8]) (by kernel_rfl) (by simp) ?_
          refine AllReadyH.cons rfl (fun K hK => ?_) ?_
          · go_simp
            refine hK.out _ _ trivial (fun _ => ?_)
            clear hK K
            (try simp only [Act.put, List.getElem_toArray, List.getElem_cons_succ, List.getElem_cons_zero, List.setIfInBounds_toArray, List.set_cons_zero, List.set_cons_succ])
            refine wpAnyH_ready (rs := [8]) (by kernel_rfl) (by simp) ?_
            refine AllReadyH.cons rfl (fun K hK => ?_) ?_
            · go_simp
              refine hK.out _ _ trivial (fun _ => ?_)
              clear hK K
              (try simp only [Act.put, List.getElem_toArray, List.getElem_cons_succ, List.getElem_cons_zero, List.setIfInBounds_toArray, List.set_cons_zero, List.set_cons_succ])
              refine wpAnyH_ready (rs := [9]) (by kernel_rfl) (by simp) ?_
              refine AllReadyH.cons rfl (fun K hK => ?_) ?_
              · refine step_append_lies _ rfl (.tmp 29) (.tmp 36) 36 rfl (w.heap.size + 2) 44 i0 _ 7 64 Tryz.underlying36 HI.out HZ0.out HZ1.out HZ2.out rfl (by decide) (.slice up m uc) m (flatC En.cells (colE (l.take i))) (by simp [Act.eval, Act.put]) (HOn.out.alloc _) ⟨wn.heap.size, 0, none⟩ 1 1 (#[.int .i64 ((i : Int) + 1), .int .i64 1, .int .i64 1, .int .i64 x, .string ⟨#[]⟩, .bool false, .int .i64 0] : Array Value).toList (by simp [Act.eval, Act.put]) rfl (by exact news_pl _ _ _) (hone) (by decide) (by unfold maxLen; omega) (by omega) (by simp; omega) (wn.heap.size + 1) (by simp) ?_
                intro g5 cap5 w5 hown5 hgrow5 hat5 hlt5
                have p0 : Own w5 w.heap.size #[.bool false, .int .i64 0, .int .i64 0, .string ⟨#[]⟩, .bool false, .int .i64 0, .int .i64 0, .int .i64 0, .int .i64 0, .int .i64 0, .slice none 0 0] := own_grown (Own.past o0wn _) hgrow5 (fun g hg => by have := hgb.out g hg; omega)
                have p1 : Own w5 (w.heap.size + 1) #[.bool true, .int .i64 0, .int .i64 0, .string ⟨#[]⟩, .bool false, .int .i64 0, .int .i64 1, .int .i64 1, .int .i64 ((i : Int) + 1), .int .i64 1, .slice up m uc] := own_grown (Own.past o1wn _) hgrow5 (fun g hg => by have := hgb.out g hg; omega)
                have q1 := p1.cell
                have r1 := p1.fro
                have s1 := p1.lt
                have HG5 : Hid _ := hgrow5
                have HO5 : Hid _ := hown5
                clear hgrow5 hown5
                refine hK.out _ _ trivial (fun _ => ?_)
                clear hK K
                (try simp only [Act.put, List.getElem_toArray, List.getElem_cons_succ, List.getElem_cons_zero, List.setIfInBounds_toArray, List.set_cons_zero, List.set_cons_succ])
                refine wpAnyH_take (i := 10) (v := .pointer (some ⟨w.heap.size + 1, 10, none⟩)) rfl (by kernel_rfl) (by kernel_rfl) (by kernel_rfl) (fun _ _ _ h => h) (Or.inl ⟨by first | rfl | kernel_rfl, by intro wz hSw; (try dsimp only at hSw); go_simp⟩) (by assumption) ?_
                (try simp only [Act.put, List.getElem_toArray, List.getElem_cons_succ, List.getElem_cons_zero, List.setIfInBounds_toArray, List.set_cons_zero, List.set_cons_succ])
                refine wpAnyH_ready (rs := [11]) (by kernel_rfl) (by simp) ?_
                refine AllReadyH.cons rfl (fun K hK => ?_) ?_
                · go_simp
                  refine hK.out _ _ trivial (fun _ => ?_)
                  clear hK K
                  (try simp only [Act.put, List.getElem_toArray, List.getElem_cons_succ, List.getElem_cons_zero, List.setIfInBounds_toArray, List.set_cons_zero, List.set_cons_succ])
                  refine wpAnyH_done (by kernel_rfl) ?_ _
                  go_wp2
                  have hBn5 : Below w.heap.size w w5 := Below.grown (hBwn.alloc (by omega) _) HG5.out (Below.size (hBwn.alloc (by omega) _)) (fun k hk => by have := hgb.out k hk; omega)
                  have hrow5 : Row En.cells 7 44 w5 (w.heap.size + 2) (.slice (some ⟨g5, 0, none⟩) (m + 1) cap5) (colE (l.take (i + 1))) := by
                    have e : En.cells (enAt i x) = #[.int .i64 ((i : Int) + 1), .int .i64 1, .int .i64 1, .int .i64 x, .string ⟨#[]⟩, .bool false, .int .i64 0] := by unfold enAt; rw [HFX.out]; rfl
                    rw [colE_snoc HAi.out]
                    unfold Row
                    rw [flatC_snoc, List.length_append, HM.out, e]
                    exact HO5.out
                  refine ⟨⟨i + 1, .slice (some ⟨g5, 0, none⟩) (m + 1) cap5, (i : Int) + 1, by go_num, by omega, (show Hid _ from btm_succ i), hBn5.setCell (p := ⟨w.heap.size + 1, 10, none⟩) (by show w.heap.size ≤ w.heap.size + 1; omega) _, p0.aside (a := ⟨w.heap.size + 1, 10, none⟩) (by show w.heap.size ≠ w.heap.size + 1; omega) _, own_put p1 (k := 10) (by simp), (show Hid _ from Row.aside hrow5 _ (fun g hg => by have := (Row.lt hrow5 g hg).1; show g ≠ w.heap.size + 1; omega))⟩, by simp [intOf]; omega⟩
                exact AllReadyH.nil
              exact AllReadyH.nil
            exact AllReadyH.nil
          refine AllReadyH.cons rfl (fun K hK => ?_) ?_
          · go_simp
            refine hK.out _ _ trivial (fun _ => ?_)
            clear hK K
            (try simp only [Act.put, List.getElem_toArray, List.getElem_cons_succ, List.getElem_cons_zero, List.setIfInBounds_toArray, List.set_cons_zero, List.set_cons_succ])
            refine wpAnyH_ready (rs := [1]) (by kernel_rfl) (by simp) ?_
            refine AllReadyH.cons rfl (fun K hK => ?_) ?_
            · go_simp
              refine hK.out _ _ trivial (fun _ => ?_)
              clear hK K
              (try simp only [Act.put, List.getElem_toArray, List.getElem_cons_succ, List.getElem_cons_zero, List.setIfInBounds_toArray, List.set_cons_zero, List.set_cons_succ])
              refine wpAnyH_ready (rs := [9]) (by kernel_rfl) (by simp) ?_
              refine AllReadyH.cons rfl (fun K hK => ?_) ?_
              · refine step_append_lies _ rfl (.tmp 29) (.tmp 36) 36 rfl (w.heap.size + 2) 44 i0 _ 7 64 Tryz.underlying36 HI.out HZ0.out HZ1.out HZ2.out rfl (by decide) (.slice up m uc) m (flatC En.cells (colE (l.take i))) (by simp [Act.eval, Act.put]) (HOn.out.alloc _) ⟨wn.heap.size, 0, none⟩ 1 1 (#[.int .i64 ((i : Int) + 1), .int .i64 1, .int .i64 1, .int .i64 x, .string ⟨#[]⟩, .bool false, .int .i64 0] : Array Value).toList (by simp [Act.eval, Act.put]) rfl (by exact news_pl _ _ _) (hone) (by decide) (by unfold maxLen; omega) (by omega) (by simp; omega) (wn.heap.size + 1) (by simp) ?_
                intro g5 cap5 w5 hown5 hgrow5 hat5 hlt5
                have p0 : Own w5 w.heap.size #[.bool false, .int .i64 0, .int .i64 0, .string ⟨#[]⟩, .bool false, .int .i64 0, .int .i64 0, .int .i64 0, .int .i64 0, .int .i64 0, .slice none 0 0] := own_grown (Own.past o0wn _) hgrow5 (fun g hg => by have := hgb.out g hg; omega)
                have p1 : Own w5 (w.heap.size + 1) #[.bool true, .int .i64 0, .int .i64 0, .string ⟨#[]⟩, .bool false, .int .i64 0, .int .i64 1, .int .i64 1, .int .i64 ((i : Int) + 1), .int .i64 1, .slice up m uc] := own_grown (Own.past o1wn _) hgrow5 (fun g hg => by have := hgb.out g hg; omega)
                have q1 := p1.cell
                have r1 := p1.fro
                have s1 := p1.lt
                have HG5 : Hid _ := hgrow5
                have HO5 : Hid _ := hown5
                clear hgrow5 hown5
                refine hK.out _ _ trivial (fun _ => ?_)
                clear hK K
                (try simp only [Act.put, List.getElem_toArray, List.getElem_cons_succ, List.getElem_cons_zero, List.setIfInBounds_toArray, List.set_cons_zero, List.set_cons_succ])
                refine wpAnyH_take (i := 10) (v := .pointer (some ⟨w.heap.size + 1, 10, none⟩)) rfl (by kernel_rfl) (by kernel_rfl) (by kernel_rfl) (fun _ _ _ h => h) (Or.inl ⟨by first | rfl | kernel_rfl, by intro wz hSw; (try dsimp only at hSw); go_simp⟩) (by assumption) ?_
                (try simp only [Act.put, List.getElem_toArray, List.getElem_cons_succ, List.getElem_cons_zero, List.setIfInBounds_toArray, List.set_cons_zero, List.set_cons_succ])
                refine wpAnyH_ready (rs := [11]) (by kernel_rfl) (by simp) ?_
                refine AllReadyH.cons rfl (fun K hK => ?_) ?_
                · go_simp
                  refine hK.out _ _ trivial (fun _ => ?_)
                  clear hK K
                  (try simp only [Act.put, List.getElem_toArray, List.getElem_cons_succ, List.getElem_cons_zero, List.setIfInBounds_toArray, List.set_cons_zero, List.set_cons_succ])
                  refine wpAnyH_done (by kernel_rfl) ?_ _
                  go_wp2
                  have hBn5 : Below w.heap.size w w5 := Below.grown (hBwn.alloc (by omega) _) HG5.out (Below.size (hBwn.alloc (by omega) _)) (fun k hk => by have := hgb.out k hk; omega)
                  have hrow5 : Row En.cells 7 44 w5 (w.heap.size + 2) (.slice (some ⟨g5, 0, none⟩) (m + 1) cap5) (colE (l.take (i + 1))) := by
                    have e : En.cells (enAt i x) = #[.int .i64 ((i : Int) + 1), .int .i64 1, .int .i64 1, .int .i64 x, .string ⟨#[]⟩, .bool false, .int .i64 0] := by unfold enAt; rw [HFX.out]; rfl
                    rw [colE_snoc HAi.out]
                    unfold Row
                    rw [flatC_snoc, List.length_append, HM.out, e]
                    exact HO5.out
                  refine ⟨⟨i + 1, .slice (some ⟨g5, 0, none⟩) (m + 1) cap5, (i : Int) + 1, by go_num, by omega, (show Hid _ from btm_succ i), hBn5.setCell (p := ⟨w.heap.size + 1, 10, none⟩) (by show w.heap.size ≤ w.heap.size + 1; omega) _, p0.aside (a := ⟨w.heap.size + 1, 10, none⟩) (by show w.heap.size ≠ w.heap.size + 1; omega) _, own_put p1 (k := 10) (by simp), (show Hid _ from Row.aside hrow5 _ (fun g hg => by have := (Row.lt hrow5 g hg).1; show g ≠ w.heap.size + 1; omega))⟩, by simp [intOf]; omega⟩
                exact AllReadyH.nil
              exact AllReadyH.nil
            exact AllReadyH.nil
          exact AllReadyH.nil
        exact AllReadyH.nil
    · have hlt' : ¬ (i : Int) < n := by omega
      have hin : i = n := by omega
      subst hin
      go_wp2
      refine bodyPost_ret (v := .agg #[.bool true, .int .i64 0, .int .i64 0, .string ⟨#[]⟩, .bool false, .int .i64 0, .int .i64 1, .int .i64 1, .int .i64 bt, .int .i64 1, .slice up m uc]) (by simp [results, Tryz.results40, go_sem, c0, f0, l0]) rfl ⟨⟨up, uc, ?_, ?_⟩, by with_reducible (repeat' first | assumption | exact Below.refl _ _ | refine Below.drew ?_ | refine bdrewN ?_ _ | refine Below.setCell ?_ (by first | exact Nat.le_refl _ | (simp; done) | (simp; omega) | omega) _ | refine Below.alloc ?_ (by first | exact Nat.le_refl _ | (simp; done) | (simp; omega) | omega) _)⟩
      · rw [HBT.out, HMI.out]
      · have q := HR.out
        rw [List.take_of_length_le (by rw [HV.out.len]; omega), HMI.out] at q
        repeat refine Row.aside ?_ _ (fun g hg => by have := (Row.lt HR.out g (by rw [HMI.out]; exact hg)).1; simp; omega)
        exact q
end Go.Proofs.YtbpbocgbfeblmaaGreatDoor
