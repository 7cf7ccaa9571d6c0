/- The contracts of the law's number, single and column (package oriellaw10). New memory alone is made. The contracts of aggs.inOrder and mayNot. New memory alone is made. -/
import Derived.Test.YtcgcnpcimfaecaaGreatDoorQGQ
import Derived.Deep.AppendLies
import Derived.Test.YtcgcnpcimfaecaaGreatDoorQAdA5
namespace Go.Proofs.YtcgcnpcimfaecaaGreatDoor
open Go.RowKit
set_option linter.all false
theorem number_any (x : Int) (w : World) : Calls Tryz.prog 19 #[.int .i64 x] w fun e w' => e = .returned (.agg #[.int .i64 (1), .int .i64 (x), .string ⟨#[]⟩, .bool false, .int .i64 (0)]) ∧ Below w.heap.size w w' := by
  go_enter Tryz.func19, Tryz.ntmps19
  go_wp2
  exact bodyPost_ret (v := (.agg #[.int .i64 (1), .int .i64 (x), .string ⟨#[]⟩, .bool false, .int .i64 (0)])) (by simp [results, Tryz.results19, go_sem]) rfl ⟨rfl, by with_reducible (repeat' first | assumption | exact Below.refl _ _ | refine Below.drew ?_ | refine bdrewN ?_ _ | refine Below.setCell ?_ (by first | exact Nat.le_refl _ | (simp; done) | (simp; omega) | omega) _ | refine Below.alloc ?_ (by first | exact Nat.le_refl _ | (simp; done) | (simp; omega) | omega) _)⟩
theorem single_any (t n : Int) (s : ByteArray) (b : Bool) (c : Int) (w : World) : Calls Tryz.prog 20 #[.agg #[.int .i64 t, .int .i64 n, .string s, .bool b, .int .i64 c]] w fun e w' => e = .returned (.agg #[.bool false, .int .i64 t, .int .i64 n, .string s, .bool b, .int .i64 c, .int .i64 0, .int .i64 0, .int .i64 0, .int .i64 0, .slice none 0 0]) ∧ Below w.heap.size w w' := by
  go_enter Tryz.func20, Tryz.ntmps20
  go_wp2
  exact bodyPost_ret (v := .agg #[.bool false, .int .i64 t, .int .i64 n, .string s, .bool b, .int .i64 c, .int .i64 0, .int .i64 0, .int .i64 0, .int .i64 0, .slice none 0 0]) (by simp [results, Tryz.results20, go_sem]) rfl ⟨rfl, by with_reducible (repeat' first | assumption | exact Below.refl _ _ | refine Below.drew ?_ | refine bdrewN ?_ _ | refine Below.setCell ?_ (by first | exact Nat.le_refl _ | (simp; done) | (simp; omega) | omega) _ | refine Below.alloc ?_ (by first | exact Nat.le_refl _ | (simp; done) | (simp; omega) | omega) _)⟩
/-- A number that may be: 0 in the place of the least. -/
def fx (x : Int) : Int := if x = -9223372036854775808 then 0 else x
def enAt (i : Nat) (x : Int) : En := ⟨(i : Int) + 1, 1, 1, fx x, ⟨#[]⟩, false, 0⟩
/-- The entries of a column. -/
def colE (l : List Int) : List En := l.zipIdx.map (fun q => enAt q.2 q.1)
theorem colE_len (l : List Int) : (colE l).length = l.length := by unfold colE; rw [List.length_map, List.length_zipIdx]
theorem colE_snoc {l : List Int} {i : Nat} {x : Int} (h : l[i]? = some x) : colE (l.take (i + 1)) = colE (l.take i) ++ [enAt i x] := by
  have hi := (List.getElem?_eq_some_iff.1 h).1
  unfold colE
  rw [List.take_succ, h, Option.toList_some, List.zipIdx_append, List.map_append, List.length_take, Nat.min_eq_left (by omega), Nat.zero_add]
  rfl
theorem En.csize (a : En) : a.cells.size = 7 := rfl
theorem En.one (a : En) : ∀ u ∈ a.cells.toList, u.oneCell' = true := by
  intro u hu
  simp [En.cells] at hu
  rcases hu with h | h | h | h | h | h | h <;> subst h <;> rfl
theorem infoEn : (Tryz.prog.info? 51).map (fun i => (i.zero, i.size, i.bytes)) = some (some (.agg #[.int .i64 0, .int .i64 0, .int .i64 0, .int .i64 0, .string ⟨#[]⟩, .bool false, .int .i64 0]), 7, 64) := by kernel_rfl
/-- The lowest row of a column of so many. -/
def btm (n : Nat) : Int := if n = 0 then 1 else n
theorem btm_succ (i : Nat) : (i : Int) + 1 = btm (i + 1) := by unfold btm; rw [if_neg (Nat.succ_ne_zero i)]; simp
set_option maxRecDepth 100000 in
set_option maxHeartbeats 4000000 in
theorem col_any (w : World) (p : Option Addr) (n c : Nat) (l : List Int) (hv : NV w p n l) (hn : n ≤ 4096) : Calls Tryz.prog 18 #[.slice p n c] w fun e w' => (∃ up uc, e = .returned (.agg #[.bool true, .int .i64 0, .int .i64 0, .string ⟨#[]⟩, .bool false, .int .i64 0, .int .i64 1, .int .i64 1, .int .i64 (btm n), .int .i64 1, .slice up n uc]) ∧ Hid (Row En.cells 7 51 w' (w.heap.size + 2) (.slice up n uc) (colE l))) ∧ Below w.heap.size w w' := by
  obtain ⟨i0, hi, hz0, hz1, hz2⟩ := info_parts infoEn
  have HI : Hid _ := hi
  have HZ0 : Hid _ := hz0
  have HZ1 : Hid _ := hz1
  have HZ2 : Hid _ := hz2
  clear hi hz0 hz1 hz2
  have HV : Hid (NV w p n l) := hv
  clear hv
  go_enter Tryz.func18, Tryz.ntmps18
  go_wp2
  go_loopw [4] (fun v w' => ∃ (i : Nat) (u : Value) (bt : Int), v = .int .i64 i ∧ i ≤ n ∧ Hid (bt = btm i) ∧ Below w.heap.size w w' ∧ Own w' w.heap.size #[.bool false, .int .i64 0, .int .i64 0, .string ⟨#[]⟩, .bool false, .int .i64 0, .int .i64 0, .int .i64 0, .int .i64 0, .int .i64 0, .slice none 0 0] ∧ Own w' (w.heap.size + 1) #[.bool true, .int .i64 0, .int .i64 0, .string ⟨#[]⟩, .bool false, .int .i64 0, .int .i64 1, .int .i64 1, .int .i64 bt, .int .i64 1, u] ∧ Hid (Row En.cells 7 51 w' (w.heap.size + 2) u (colE (l.take i)))) (fun v _ => n - (intOf v).toNat)
  case atStart => exact ⟨0, .slice none 0 0, 1, rfl, by omega, rfl, by with_reducible (repeat' first | assumption | exact Below.refl _ _ | refine Below.drew ?_ | refine bdrewN ?_ _ | refine Below.setCell ?_ (by first | exact Nat.le_refl _ | (simp; done) | (simp; omega) | omega) _ | refine Below.alloc ?_ (by first | exact Nat.le_refl _ | (simp; done) | (simp; omega) | omega) _), by with_reducible (repeat' first | assumption | refine Own.drew ?_ | refine Own.drewN ?_ _ | (refine Own.at ?_; first | rfl | (simp; done)) | refine Own.past ?_ _), by with_reducible (repeat' first | assumption | refine Own.drew ?_ | refine Own.drewN ?_ _ | (refine Own.at ?_; first | rfl | (simp; done)) | refine Own.past ?_ _), Row.nil _ _⟩
  case round =>
    obtain ⟨i, u, bt, rfl, hii, HBT, hB3, o0, o1, HR⟩ := hrel
    have z3 := hB3.size
    obtain ⟨up, uc, hu, _, _⟩ := Row.slice HR.out
    obtain ⟨m, hm⟩ : ∃ m, (colE (l.take i)).length = m := ⟨_, rfl⟩
    rw [hm] at hu
    subst hu
    have hmi : m = i := by rw [← hm, colE_len, List.length_take, HV.out.len]; omega
    have HM : Hid _ := hm
    have hmn : m ≤ 4096 := by omega
    have HMI : Hid _ := hmi
    clear hm hmi
    have c0 := o0.cell
    have f0 := o0.fro
    have l0 := o0.lt
    have c1 := o1.cell
    have f1 := o1.fro
    have l1 := o1.lt
    by_cases hlt : i < n
    · have hlt' : (i : Int) < n := by omega
      have hlt2 : (i : Int) < 4096 := by omega
      obtain ⟨b, o, hp, hb, hc⟩ := HV.out.at_ (by omega)
      subst hp
      have hai : l[i]? = some (l[i]'(by rw [HV.out.len]; exact hlt)) := List.getElem?_eq_getElem _
      have cx := (hB3.cell (p := ⟨b, o + i, none⟩) hb).trans (hc i _ hai)
      have HAi : Hid _ := hai
      revert HAi cx
      generalize (l[i]'(by rw [HV.out.len]; exact hlt)) = x
      intro cx HAi
      clear hai hc
      have hnb : ¬ b = w.heap.size + 1 := by omega
      have hnb2 : ¬ w.heap.size + 1 = b := by omega
      have HRw : Hid (Row En.cells 7 51 (wr.setCell ⟨w.heap.size + 1, 8, none⟩ (.int .i64 ((i : Int) + 1))).drew (w.heap.size + 2) (.slice up m uc) (colE (l.take i))) := (show Row En.cells 7 51 (wr.setCell ⟨w.heap.size + 1, 8, none⟩ (.int .i64 ((i : Int) + 1))).drew (w.heap.size + 2) (.slice up m uc) (colE (l.take i)) from Row.keep (Row.aside HR.out _ (fun g hg => by have := (Row.lt HR.out g hg).1; show g ≠ w.heap.size + 1; omega)) (Below.refl _ _).drew)
      have hgb : Hid (∀ g, (Value.slice up m uc).ownBlock = some g → w.heap.size + 2 ≤ g) := (show ∀ g, (Value.slice up m uc).ownBlock = some g → w.heap.size + 2 ≤ g from fun g hg => (Row.lt HR.out g hg).1)
      have oz0 : Own (wr.setCell ⟨w.heap.size + 1, 8, none⟩ (.int .i64 ((i : Int) + 1))).drew w.heap.size #[.bool false, .int .i64 0, .int .i64 0, .string ⟨#[]⟩, .bool false, .int .i64 0, .int .i64 0, .int .i64 0, .int .i64 0, .int .i64 0, .slice none 0 0] := (o0.aside (a := ⟨w.heap.size + 1, 8, none⟩) (by show w.heap.size ≠ w.heap.size + 1; omega) _).drew
      have oz1 : Own (wr.setCell ⟨w.heap.size + 1, 8, none⟩ (.int .i64 ((i : Int) + 1))).drew (w.heap.size + 1) #[.bool true, .int .i64 0, .int .i64 0, .string ⟨#[]⟩, .bool false, .int .i64 0, .int .i64 1, .int .i64 1, .int .i64 ((i : Int) + 1), .int .i64 1, .slice up m uc] := (own_put o1 (k := 8) (by simp)).drew
      have hwi : IntKind.i64.wrap ((i : Int) + 1) = (i : Int) + 1 := by rw [IntKind.wrap_i64]; omega
      have mixed : Tryz.prog.follows .mixedOrders = true := by kernel_rfl
      by_cases hxm : x = -9223372036854775808
      · have hfx : fx x = 0 := by unfold fx; rw [if_pos hxm]
        have hone : ∀ u ∈ (#[.int .i64 ((i : Int) + 1), .int .i64 1, .int .i64 1, .int .i64 0, .string ⟨#[]⟩, .bool false, .int .i64 0] : Array Value).toList, u.oneCell' = true := En.one ⟨(i : Int) + 1, 1, 1, 0, ⟨#[]⟩, false, 0⟩
        have HFX : Hid _ := hfx
        clear hfx
        have hxe : (x == -9223372036854775808) = true := by simpa using hxm
        clear hxm
        go_wp2
        refine wp_region_held_drew (S := fun _ => True) (by kernel_rfl) trivial (fun hHeld => ?_)
        refine wpAnyH_take (i := 0) (v := .pointer (some ⟨w.heap.size + 1, 10, none⟩)) rfl (by kernel_rfl) (by kernel_rfl) (by kernel_rfl) (fun _ _ _ h => h) (Or.inl ⟨by first | rfl | kernel_rfl, by intro wz hSw; (try dsimp only at hSw); go_simp⟩) (by assumption) ?_
        (try simp only [Act.put, List.getElem_toArray, List.getElem_cons_succ, List.getElem_cons_zero, List.setIfInBounds_toArray, List.set_cons_zero, List.set_cons_succ])
        refine wpAnyH_take (i := 2) (v := .int .i64 (i : Int)) rfl (by kernel_rfl) (by kernel_rfl) (by kernel_rfl) (fun _ _ _ h => h) (Or.inl ⟨by first | rfl | kernel_rfl, by intro wz hSw; (try dsimp only at hSw); go_simp⟩) (by assumption) ?_
        (try simp only [Act.put, List.getElem_toArray, List.getElem_cons_succ, List.getElem_cons_zero, List.setIfInBounds_toArray, List.set_cons_zero, List.set_cons_succ])
        refine wpAnyH_take (i := 3) (v := .int .i64 ((i : Int) + 1)) rfl (by kernel_rfl) (by kernel_rfl) (by kernel_rfl) (fun _ _ _ h => h) (Or.inl ⟨by first | rfl | kernel_rfl, by intro wz hSw; (try dsimp only at hSw); go_simp⟩) (by assumption) ?_
        (try simp only [Act.put, List.getElem_toArray, List.getElem_cons_succ, List.getElem_cons_zero, List.setIfInBounds_toArray, List.set_cons_zero, List.set_cons_succ])
        refine wpAnyH_take (i := 4) (v := .agg #[.int .i64 ((i : Int) + 1), .int .i64 1]) rfl (by kernel_rfl) (by kernel_rfl) (by kernel_rfl) (fun _ _ _ h => h) (Or.inl ⟨by first | rfl | kernel_rfl, by intro wz hSw; (try dsimp only at hSw); go_simp⟩) (by assumption) ?_
        (try simp only [Act.put, List.getElem_toArray, List.getElem_cons_succ, List.getElem_cons_zero, List.setIfInBounds_toArray, List.set_cons_zero, List.set_cons_succ])
        refine wpAnyH_take (i := 5) (v := .int .i64 0) rfl (by kernel_rfl) (by kernel_rfl) (by kernel_rfl) (fun _ _ _ h => h) (Or.inl ⟨by first | rfl | kernel_rfl, by intro wz hSw; (try dsimp only at hSw); go_simp⟩) (by assumption) ?_
        (try simp only [Act.put, List.getElem_toArray, List.getElem_cons_succ, List.getElem_cons_zero, List.setIfInBounds_toArray, List.set_cons_zero, List.set_cons_succ])
        refine wpAnyH_ready (rs := [1, 6]) (by kernel_rfl) (by simp) ?_
        refine AllReadyH.cons rfl (fun K hK => ?_) ?_
        · go_simp
          refine hK.out _ _ trivial (fun _ => ?_)
          clear hK K
          (try simp only [Act.put, List.getElem_toArray, List.getElem_cons_succ, List.getElem_cons_zero, List.setIfInBounds_toArray, List.set_cons_zero, List.set_cons_succ])
          refine wpAnyH_ready (rs := [6]) (by kernel_rfl) (by simp) ?_
          refine AllReadyH.cons rfl (fun K hK => ?_) ?_
          · go_simp
            (go_at_call 19; refine (number_any _ _).mono ?_; rintro e wn ⟨rfl, hbwn⟩; have hBwn : Below w.heap.size w wn := bup (by with_reducible (repeat' first | assumption | exact Below.refl _ _ | refine Below.drew ?_ | refine bdrewN ?_ _ | refine Below.setCell ?_ (by first | exact Nat.le_refl _ | (simp; done) | (simp; omega) | omega) _ | refine Below.alloc ?_ (by first | exact Nat.le_refl _ | (simp; done) | (simp; omega) | omega) _)) hbwn; have zwn := hBwn.size; have o0wn : Own wn (w.heap.size) #[.bool false, .int .i64 0, .int .i64 0, .string ⟨#[]⟩, .bool false, .int .i64 0, .int .i64 0, .int .i64 0, .int .i64 0, .int .i64 0, .slice none 0 0] := Own.keep (by with_reducible (repeat' first | assumption | refine Own.drew ?_ | refine Own.drewN ?_ _ | (refine Own.at ?_; first | rfl | (simp; done)) | refine Own.past ?_ _)) hbwn; have c0 := o0wn.cell; have f0 := o0wn.fro; have l0 := o0wn.lt; have o1wn : Own wn (w.heap.size + 1) #[.bool true, .int .i64 0, .int .i64 0, .string ⟨#[]⟩, .bool false, .int .i64 0, .int .i64 1, .int .i64 1, .int .i64 ((i : Int) + 1), .int .i64 1, .slice up m uc] := Own.keep (by with_reducible (repeat' first | assumption | refine Own.drew ?_ | refine Own.drewN ?_ _ | (refine Own.at ?_; first | rfl | (simp; done)) | refine Own.past ?_ _)) hbwn; have c1 := o1wn.cell; have f1 := o1wn.fro; have l1 := o1wn.lt; have HRn : Hid (Row En.cells 7 51 wn (w.heap.size + 2) (.slice up m uc) (colE (l.take i))) := (show Row En.cells 7 51 wn (w.heap.size + 2) (.slice up m uc) (colE (l.take i)) from Row.keep HRw.out hbwn); have HOn : Hid (wn.ownsRow (w.heap.size + 2) 51 7 (.slice up m uc) m (flatC En.cells (colE (l.take i)))) := (show wn.ownsRow (w.heap.size + 2) 51 7 (.slice up m uc) m (flatC En.cells (colE (l.take i))) from by have q := HRn.out; unfold Row at q; rw [HM.out] at q; exact q))
            go_wp2_with fail
            refine hK.out _ _ trivial (fun _ => ?_)
            clear hK K
            (try simp only [Act.put, List.getElem_toArray, List.getElem_cons_succ, List.getElem_cons_zero, List.setIfInBounds_toArray, List.set_cons_zero, List.set_cons_succ])
            refine wpAnyH_take (i := 7) (v := .agg #[.int .i64 ((i : Int) + 1), .int .i64 1, .int .i64 1, .int .i64 0, .string ⟨#[]⟩, .bool false, .int .i64 0]) rfl (by kernel_rfl) (by kernel_rfl) (by kernel_rfl) (fun _ _ _ h => h) (Or.inl ⟨by first | rfl | kernel_rfl, by intro wz hSw; (try dsimp only at hSw); go_simp⟩) (by assumption) ?_
            (try simp only [Act.put, List.getElem_toArray, List.getElem_cons_succ, List.getElem_cons_zero, List.setIfInBounds_toArray, List.set_cons_zero, List.set_cons_succ])
            refine wpAnyH_ready (rs := [8]) (by kernel_rfl) (by simp) ?_
            refine AllReadyH.cons rfl (fun K hK => ?_) ?_
            · go_simp
              refine hK.out _ _ trivial (fun _ => ?_)
              clear hK K
              (try simp only [Act.put, List.getElem_toArray, List.getElem_cons_succ, List.getElem_cons_zero, List.setIfInBounds_toArray, List.set_cons_zero, List.set_cons_succ])
              refine wpAnyH_ready (rs := [9]) (by kernel_rfl) (by simp) ?_
              refine AllReadyH.cons rfl (fun K hK => ?_) ?_
              · refine step_append_lies _ rfl (.tmp 29) (.tmp 36) 38 rfl (w.heap.size + 2) 51 i0 _ 7 64 Tryz.underlying38 HI.out HZ0.out HZ1.out HZ2.out rfl (by decide) (.slice up m uc) m (flatC En.cells (colE (l.take i))) (by simp [Act.eval, Act.put]) (HOn.out.alloc _) ⟨wn.heap.size, 0, none⟩ 1 1 (#[.int .i64 ((i : Int) + 1), .int .i64 1, .int .i64 1, .int .i64 0, .string ⟨#[]⟩, .bool false, .int .i64 0] : Array Value).toList (by simp [Act.eval, Act.put]) rfl (by exact news_pl _ _ _) (hone) (by decide) (by unfold maxLen; omega) (by omega) (by simp; omega) (wn.heap.size + 1) (by simp) ?_
                intro g5 cap5 w5 hown5 hgrow5 hat5 hlt5
                have p0 : Own w5 w.heap.size #[.bool false, .int .i64 0, .int .i64 0, .string ⟨#[]⟩, .bool false, .int .i64 0, .int .i64 0, .int .i64 0, .int .i64 0, .int .i64 0, .slice none 0 0] := own_grown (Own.past o0wn _) hgrow5 (fun g hg => by have := hgb.out g hg; omega)
                have p1 : Own w5 (w.heap.size + 1) #[.bool true, .int .i64 0, .int .i64 0, .string ⟨#[]⟩, .bool false, .int .i64 0, .int .i64 1, .int .i64 1, .int .i64 ((i : Int) + 1), .int .i64 1, .slice up m uc] := own_grown (Own.past o1wn _) hgrow5 (fun g hg => by have := hgb.out g hg; omega)
                have q1 := p1.cell
                have r1 := p1.fro
                have s1 := p1.lt
                have HG5 : Hid _ := hgrow5
                have HO5 : Hid _ := hown5
                clear hgrow5 hown5
                refine hK.out _ _ trivial (fun _ => ?_)
                clear hK K
                (try simp only [Act.put, List.getElem_toArray, List.getElem_cons_succ, List.getElem_cons_zero, List.setIfInBounds_toArray, List.set_cons_zero, List.set_cons_succ])
                refine wpAnyH_take (i := 10) (v := .pointer (some ⟨w.heap.size + 1, 10, none⟩)) rfl (by kernel_rfl) (by kernel_rfl) (by kernel_rfl) (fun _ _ _ h => h) (Or.inl ⟨by first | rfl | kernel_rfl, by intro wz hSw; (try dsimp only at hSw); go_simp⟩) (by assumption) ?_
                (try simp only [Act.put, List.getElem_toArray, List.getElem_cons_succ, List.getElem_cons_zero, List.setIfInBounds_toArray, List.set_cons_zero, List.set_cons_succ])
                refine wpAnyH_ready (rs := [11]) (by kernel_rfl) (by simp) ?_
                refine AllReadyH.cons rfl (fun K hK => ?_) ?_
                · go_simp
                  refine hK.out _ _ trivial (fun _ => ?_)
                  clear hK K
                  (try simp only [Act.put, List.getElem_toArray, List.getElem_cons_succ, List.getElem_cons_zero, List.setIfInBounds_toArray, List.set_cons_zero, List.set_cons_succ])
                  refine wpAnyH_done (by kernel_rfl) ?_ _
                  go_wp2
                  have hBn5 : Below w.heap.size w w5 := Below.grown (hBwn.alloc (by omega) _) HG5.out (Below.size (hBwn.alloc (by omega) _)) (fun k hk => by have := hgb.out k hk; omega)
                  have hrow5 : Row En.cells 7 51 w5 (w.heap.size + 2) (.slice (some ⟨g5, 0, none⟩) (m + 1) cap5) (colE (l.take (i + 1))) := by
                    have e : En.cells (enAt i x) = #[.int .i64 ((i : Int) + 1), .int .i64 1, .int .i64 1, .int .i64 0, .string ⟨#[]⟩, .bool false, .int .i64 0] := by unfold enAt; rw [HFX.out]; rfl
                    rw [colE_snoc HAi.out]
                    unfold Row
                    rw [flatC_snoc, List.length_append, HM.out, e]
                    exact HO5.out
                  refine ⟨⟨i + 1, .slice (some ⟨g5, 0, none⟩) (m + 1) cap5, (i : Int) + 1, by go_num, by omega, (show Hid _ from btm_succ i), hBn5.setCell (p := ⟨w.heap.size + 1, 10, none⟩) (by show w.heap.size ≤ w.heap.size + 1; omega) _, p0.aside (a := ⟨w.heap.size + 1, 10, none⟩) (by show w.heap.size ≠ w.heap.size + 1; omega) _, own_put p1 (k := 10) (by simp), (show Hid _ from Row.aside hrow5 _ (fun g hg => by have := (Row.lt hrow5 g hg).1; show g ≠ w.heap.size + 1; omega))⟩, by simp [intOf]; omega⟩
                exact AllReadyH.nil
              exact AllReadyH.nil
            exact AllReadyH.nil
          exact AllReadyH.nil
        refine AllReadyH.cons rfl (fun K hK => ?_) ?_
        · go_simp
          (go_at_call 19; refine (number_any _ _).mono ?_; rintro e wn ⟨rfl, hbwn⟩; have hBwn : Below w.heap.size w wn := bup (by with_reducible (repeat' first | assumption | exact Below.refl _ _ | refine Below.drew ?_ | refine bdrewN ?_ _ | refine Below.setCell ?_ (by first | exact Nat.le_refl _ | (simp; done) | (simp; omega) | omega) _ | refine Below.alloc ?_ (by first | exact Nat.le_refl _ | (simp; done) | (simp; omega) | omega) _)) hbwn; have zwn := hBwn.size; have o0wn : Own wn (w.heap.size) #[.bool false, .int .i64 0, .int .i64 0, .string ⟨#[]⟩, .bool false, .int .i64 0, .int .i64 0, .int .i64 0, .int .i64 0, .int .i64 0, .slice none 0 0] := Own.keep (by with_reducible (repeat' first | assumption | refine Own.drew ?_ | refine Own.drewN ?_ _ | (refine Own.at ?_; first | rfl | (simp; done)) | refine Own.past ?_ _)) hbwn; have c0 := o0wn.cell; have f0 := o0wn.fro; have l0 := o0wn.lt; have o1wn : Own wn (w.heap.size + 1) #[.bool true, .int .i64 0, .int .i64 0, .string ⟨#[]⟩, .bool false, .int .i64 0, .int .i64 1, .int .i64 1, .int .i64 ((i : Int) + 1), .int .i64 1, .slice up m uc] := Own.keep (by with_reducible (repeat' first | assumption | refine Own.drew ?_ | refine Own.drewN ?_ _ | (refine Own.at ?_; first | rfl | (simp; done)) | refine Own.past ?_ _)) hbwn; have c1 := o1wn.cell; have f1 := o1wn.fro; have l1 := o1wn.lt; have HRn : Hid (Row En.cells 7 51 wn (w.heap.size + 2) (.slice up m uc) (colE (l.take i))) := (show Row En.cells 7 51 wn (w.heap.size + 2) (.slice up m uc) (colE (l.take i)) from Row.keep HRw.out hbwn); have HOn : Hid (wn.ownsRow (w.heap.size + 2) 51 7 (.slice up m uc) m (flatC En.cells (colE (l.take i)))) := (show wn.ownsRow (w.heap.size + 2) 51 7 (.slice up m uc) m (flatC En.cells (colE (l.take i))) from by have q := HRn.out; unfold Row at q; rw [HM.out] at q; exact q))
          go_wp2_with fail
          refine hK.out _ _ trivial (fun _ => ?_)
          clear hK K
          (try simp only [Act.put, List.getElem_toArray, List.getElem_cons_succ, List.getElem_cons_zero, List.setIfInBounds_toArray, List.set_cons_zero, List.set_cons_succ])
          refine wpAnyH_take (i := 7) (v := .agg #[.int .i64 ((i : Int) + 1), .int .i64 1, .int .i64 1, .int .i64 0, .string ⟨#[]⟩, .bool false, .int .i64 0]) rfl (by kernel_rfl) (by kernel_rfl) (by kernel_rfl) (fun _ _ _ h => h) (Or.inl ⟨by first | rfl | kernel_rfl, by intro wz hSw; (try dsimp only at hSw); go_simp⟩) (by assumption) ?_
          (try simp only [Act.put, List.getElem_toArray, List.getElem_cons_succ, List.getElem_cons_zero, List.setIfInBounds_toArray, List.set_cons_zero, List.set_cons_succ])
          refine wpAnyH_ready (rs := [1, 8]) (by kernel_rfl) (by simp) ?_
          refine AllReadyH.cons rfl (fun K hK => ?_) ?_
          · go_simp
            refine hK.out _ _ trivial (fun _ => ?_)
            clear hK K
            (try simp only [Act.put, List.getElem_toArray, List.getElem_cons_succ, List.getElem_cons_zero, List.setIfInBounds_toArray, List.set_cons_zero, List.set_cons_succ])
            refine wpAnyH_ready (rs := [8]) (by kernel_rfl) (by simp) ?_
            refine AllReadyH.cons rfl (fun K hK => ?_) ?_
            · go_simp
              refine hK.out _ _ trivial (fun _ => ?_)
              clear hK K
              (try simp only [Act.put, List.getElem_toArray, List.getElem_cons_succ, List.getElem_cons_zero, List.setIfInBounds_toArray, List.set_cons_zero, List.set_cons_succ])
              refine wpAnyH_ready (rs := [9]) (by kernel_rfl) (by simp) ?_
              refine AllReadyH.cons rfl (fun K hK => ?_) ?_
              · refine step_append_lies _ rfl (.tmp 29) (.tmp 36) 38 rfl (w.heap.size + 2) 51 i0 _ 7 64 Tryz.underlying38 HI.out HZ0.out HZ1.out HZ2.out rfl (by decide) (.slice up m uc) m (flatC En.cells (colE (l.take i))) (by simp [Act.eval, Act.put]) (HOn.out.alloc _) ⟨wn.heap.size, 0, none⟩ 1 1 (#[.int .i64 ((i : Int) + 1), .int .i64 1, .int .i64 1, .int .i64 0, .string ⟨#[]⟩, .bool false, .int .i64 0] : Array Value).toList (by simp [Act.eval, Act.put]) rfl (by exact news_pl _ _ _) (hone) (by decide) (by unfold maxLen; omega) (by omega) (by simp; omega) (wn.heap.size + 1) (by simp) ?_
                intro g5 cap5 w5 hown5 hgrow5 hat5 hlt5
                have p0 : Own w5 w.heap.size #[.bool false, .int .i64 0, .int .i64 0, .string ⟨#[]⟩, .bool false, .int .i64 0, .int .i64 0, .int .i64 0, .int .i64 0, .int .i64 0, .slice none 0 0] := own_grown (Own.past o0wn _) hgrow5 (fun g hg => by have := hgb.out g hg; omega)
                have p1 : Own w5 (w.heap.size + 1) #[.bool true, .int .i64 0, .int .i64 0, .string ⟨#[]⟩, .bool false, .int .i64 0, .int .i64 1, .int .i64 1, .int .i64 ((i : Int) + 1), .int .i64 1, .slice up m uc] := own_grown (Own.past o1wn _) hgrow5 (fun g hg => by have := hgb.out g hg; omega)
                have q1 := p1.cell
                have r1 := p1.fro
                have s1 := p1.lt
                have HG5 : Hid _ := hgrow5
                have HO5 : Hid _ := hown5
                clear hgrow5 hown5
                refine hK.out _ _ trivial (fun _ => ?_)
                clear hK K
                (try simp only [Act.put, List.getElem_toArray, List.getElem_cons_succ, List.getElem_cons_zero, List.setIfInBounds_toArray, List.set_cons_zero, List.set_cons_succ])
                refine wpAnyH_take (i := 10) (v := .pointer (some ⟨w.heap.size + 1, 10, none⟩)) rfl (by kernel_rfl) (by kernel_rfl) (by kernel_rfl) (fun _ _ _ h => h) (Or.inl ⟨by first | rfl | kernel_rfl, by intro wz hSw; (try dsimp only at hSw); go_simp⟩) (by assumption) ?_
                (try simp only [Act.put, List.getElem_toArray, List.getElem_cons_succ, List.getElem_cons_zero, List.setIfInBounds_toArray, List.set_cons_zero, List.set_cons_succ])
                refine wpAnyH_ready (rs := [11]) (by kernel_rfl) (by simp) ?_
                refine AllReadyH.cons rfl (fun K hK => ?_) ?_
                · go_simp
                  refine hK.out _ _ trivial (fun _ => ?_)
                  clear hK K
                  (try simp only [Act.put, List.getElem_toArray, List.getElem_cons_succ, List.getElem_cons_zero, List.setIfInBounds_toArray, List.set_cons_zero, List.set_cons_succ])
                  refine wpAnyH_done (by kernel_rfl) ?_ _
                  go_wp2
                  have hBn5 : Below w.heap.size w w5 := Below.grown (hBwn.alloc (by omega) _) HG5.out (Below.size (hBwn.alloc (by omega) _)) (fun k hk => by have := hgb.out k hk; omega)
                  have hrow5 : Row En.cells 7 51 w5 (w.heap.size + 2) (.slice (some ⟨g5, 0, none⟩) (m + 1) cap5) (colE (l.take (i + 1))) := by
                    have e : En.cells (enAt i x) = #[.int .i64 ((i : Int) + 1), .int .i64 1, .int .i64 1, .int .i64 0, .string ⟨#[]⟩, .bool false, .int .i64 0] := by unfold enAt; rw [HFX.out]; rfl
                    rw [colE_snoc HAi.out]
                    unfold Row
                    rw [flatC_snoc, List.length_append, HM.out, e]
                    exact HO5.out
                  refine ⟨⟨i + 1, .slice (some ⟨g5, 0, none⟩) (m + 1) cap5, (i : Int) + 1, by go_num, by omega, (show Hid _ from btm_succ i), hBn5.setCell (p := ⟨w.heap.size + 1, 10, none⟩) (by show w.heap.size ≤ w.heap.size + 1; omega) _, p0.aside (a := ⟨w.heap.size + 1, 10, none⟩) (by show w.heap.size ≠ w.heap.size + 1; omega) _, own_put p1 (k := 10) (by simp), (show Hid _ from Row.aside hrow5 _ (fun g hg => by have := (Row.lt hrow5 g hg).1; show g ≠ w.heap.size + 1; omega))⟩, by simp [intOf]; omega⟩
                exact AllReadyH.nil
              exact AllReadyH.nil
            exact AllReadyH.nil
          refine AllReadyH.cons rfl (fun K hK => ?_) ?_
          · go_simp
            refine hK.out _ _ trivial (fun _ => ?_)
            clear hK K
            (try simp only [Act.put, List.getElem_toArray, List.getElem_cons_succ, List.getElem_cons_zero, List.setIfInBounds_toArray, List.set_cons_zero, List.set_cons_succ])
            refine wpAnyH_ready (rs := [1]) (by kernel_rfl) (by simp) ?_
            refine AllReadyH.cons rfl (fun K hK => ?_) ?_
            · go_simp
              refine hK.out _ _ trivial (fun _ => ?_)
              clear hK K
              (try simp only [Act.put, List.getElem_toArray, List.getElem_cons_succ, List.getElem_cons_zero, List.setIfInBounds_toArray, List.set_cons_zero, List.set_cons_succ])
              refine wpAnyH_ready (rs := [9]) (by kernel_rfl) (by simp) ?_
              refine AllReadyH.cons rfl (fun K hK => ?_) ?_
              · refine step_append_lies _ rfl (.tmp 29) (.tmp 36) 38 rfl (w.heap.size + 2) 51 i0 _ 7 64 Tryz.underlying38 HI.out HZ0.out HZ1.out HZ2.out rfl (by decide) (.slice up m uc) m (flatC En.cells (colE (l.take i))) (by simp [Act.eval, Act.put]) (HOn.out.alloc _) ⟨wn.heap.size, 0, none⟩ 1 1 (#[.int .i64 ((i : Int) + 1), .int .i64 1, .int .i64 1, .int .i64 0, .string ⟨#[]⟩, .bool false, .int .i64 0] : Array Value).toList (by simp [Act.eval, Act.put]) rfl (by exact news_pl _ _ _) (hone) (by decide) (by unfold maxLen; omega) (by omega) (by simp; omega) (wn.heap.size + 1) (by simp) ?_
                intro g5 cap5 w5 hown5 hgrow5 hat5 hlt5
                have p0 : Own w5 w.heap.size #[.bool false, .int .i64 0, .int .i64 0, .string ⟨#[]⟩, .bool false, .int .i64 0, .int .i64 0, .int .i64 0, .int .i64 0, .int .i64 0, .slice none 0 0] := own_grown (Own.past o0wn _) hgrow5 (fun g hg => by have := hgb.out g hg; omega)
                have p1 : Own w5 (w.heap.size + 1) #[.bool true, .int .i64 0, .int .i64 0, .string ⟨#[]⟩, .bool false, .int .i64 0, .int .i64 1, .int .i64 1, .int .i64 ((i : Int) + 1), .int .i64 1, .slice up m uc] := own_grown (Own.past o1wn _) hgrow5 (fun g hg => by have := hgb.out g hg; omega)
                have q1 := p1.cell
                have r1 := p1.fro
                have s1 := p1.lt
                have HG5 : Hid _ := hgrow5
                have HO5 : Hid _ := hown5
                clear hgrow5 hown5
                refine hK.out _ _ trivial (fun _ => ?_)
                clear hK K
                (try simp only [Act.put, List.getElem_toArray, List.getElem_cons_succ, List.getElem_cons_zero, List.setIfInBounds_toArray, List.set_cons_zero, List.set_cons_succ])
                refine wpAnyH_take (i := 10) (v := .pointer (some ⟨w.heap.size + 1, 10, none⟩)) rfl (by kernel_rfl) (by kernel_rfl) (by kernel_rfl) (fun _ _ _ h => h) (Or.inl ⟨by first | rfl | kernel_rfl, by intro wz hSw; (try dsimp only at hSw); go_simp⟩) (by assumption) ?_
                (try simp only [Act.put, List.getElem_toArray, List.getElem_cons_succ, List.getElem_cons_zero, List.setIfInBounds_toArray, List.set_cons_zero, List.set_cons_succ])
                refine wpAnyH_ready (rs := [11]) (by kernel_rfl) (by simp) ?_
                refine AllReadyH.cons rfl (fun K hK => ?_) ?_
                · go_simp
                  refine hK.out _ _ trivial (fun _ => ?_)
                  clear hK K
                  (try simp only [Act.put, List.getElem_toArray, List.getElem_cons_succ, List.getElem_cons_zero, List.setIfInBounds_toArray, List.set_cons_zero, List.set_cons_succ])
                  refine wpAnyH_done (by kernel_rfl) ?_ _
                  go_wp2
                  have hBn5 : Below w.heap.size w w5 := Below.grown (hBwn.alloc (by omega) _) HG5.out (Below.size (hBwn.alloc (by omega) _)) (fun k hk => by have := hgb.out k hk; omega)
                  have hrow5 : Row En.cells 7 51 w5 (w.heap.size + 2) (.slice (some ⟨g5, 0, none⟩) (m + 1) cap5) (colE (l.take (i + 1))) := by
                    have e : En.cells (enAt i x) = #[.int .i64 ((i : Int) + 1), .int .i64 1, .int .i64 1, .int .i64 0, .string ⟨#[]⟩, .bool false, .int .i64 0] := by unfold enAt; rw [HFX.out]; rfl
                    rw [colE_snoc HAi.out]
                    unfold Row
                    rw [flatC_snoc, List.length_append, HM.out, e]
                    exact HO5.out
                  refine ⟨⟨i + 1, .slice (some ⟨g5, 0, none⟩) (m + 1) cap5, (i : Int) + 1, by go_num, by omega, (show Hid _ from btm_succ i), hBn5.setCell (p := ⟨w.heap.size + 1, 10, none⟩) (by show w.heap.size ≤ w.heap.size + 1; omega) _, p0.aside (a := ⟨w.heap.size + 1, 10, none⟩) (by show w.heap.size ≠ w.heap.size + 1; omega) _, own_put p1 (k := 10) (by simp), (show Hid _ from Row.aside hrow5 _ (fun g hg => by have := (Row.lt hrow5 g hg).1; show g ≠ w.heap.size + 1; omega))⟩, by simp [intOf]; omega⟩
                exact AllReadyH.nil
              exact AllReadyH.nil
            exact AllReadyH.nil
          exact AllReadyH.nil
        exact AllReadyH.nil
      · have hfx : fx x = x := by unfold fx; rw [if_neg hxm]
        have hxe : (x == -9223372036854775808) = false := by simpa using hxm
        have hone : ∀ u ∈ (#[.int .i64 ((i : Int) + 1), .int .i64 1, .int .i64 1, .int .i64 x, .string ⟨#[]⟩, .bool false, .int .i64 0] : Array Value).toList, u.oneCell' = true := En.one ⟨(i : Int) + 1, 1, 1, x, ⟨#[]⟩, false, 0⟩
        have HFX : Hid _ := hfx
        clear hfx
        go_wp2
        refine wp_region_held_drew (S := fun _ => True) (by kernel_rfl) trivial (fun hHeld => ?_)
        refine wpAnyH_take (i := 0) (v := .pointer (some ⟨w.heap.size + 1, 10, none⟩)) rfl (by kernel_rfl) (by kernel_rfl) (by kernel_rfl) (fun _ _ _ h => h) (Or.inl ⟨by first | rfl | kernel_rfl, by intro wz hSw; (try dsimp only at hSw); go_simp⟩) (by assumption) ?_
        (try simp only [Act.put, List.getElem_toArray, List.getElem_cons_succ, List.getElem_cons_zero, List.setIfInBounds_toArray, List.set_cons_zero, List.set_cons_succ])
        refine wpAnyH_take (i := 2) (v := .int .i64 (i : Int)) rfl (by kernel_rfl) (by kernel_rfl) (by kernel_rfl) (fun _ _ _ h => h) (Or.inl ⟨by first | rfl | kernel_rfl, by intro wz hSw; (try dsimp only at hSw); go_simp⟩) (by assumption) ?_
        (try simp only [Act.put, List.getElem_toArray, List.getElem_cons_succ, List.getElem_cons_zero, List.setIfInBounds_toArray, List.set_cons_zero, List.set_cons_succ])
        refine wpAnyH_take (i := 3) (v := .int .i64 ((i : Int) + 1)) rfl (by kernel_rfl) (by kernel_rfl) (by kernel_rfl) (fun _ _ _ h => h) (Or.inl ⟨by first | rfl | kernel_rfl, by intro wz hSw; (try dsimp only at hSw); go_simp⟩) (by assumption) ?_
        (try simp only [Act.put, List.getElem_toArray, List.getElem_cons_succ, List.getElem_cons_zero, List.setIfInBounds_toArray, List.set_cons_zero, List.set_cons_succ])
        refine wpAnyH_take (i := 4) (v := .agg #[.int .i64 ((i : Int) + 1), .int .i64 1]) rfl (by kernel_rfl) (by kernel_rfl) (by kernel_rfl) (fun _ _ _ h => h) (Or.inl ⟨by first | rfl | kernel_rfl, by intro wz hSw; (try dsimp only at hSw); go_simp⟩) (by assumption) ?_
        (try simp only [Act.put, List.getElem_toArray, List.getElem_cons_succ, List.getElem_cons_zero, List.setIfInBounds_toArray, List.set_cons_zero, List.set_cons_succ])
        refine wpAnyH_take (i := 5) (v := .int .i64 x) rfl (by kernel_rfl) (by kernel_rfl) (by kernel_rfl) (fun _ _ _ h => h) (Or.inl ⟨by first | rfl | kernel_rfl, by intro wz hSw; (try dsimp only at hSw); go_simp⟩) (by assumption) ?_
        (try simp only [Act.put, List.getElem_toArray, List.getElem_cons_succ, List.getElem_cons_zero, List.setIfInBounds_toArray, List.set_cons_zero, List.set_cons_succ])
        refine wpAnyH_ready (rs := [1, 6]) (by kernel_rfl) (by simp) ?_
        refine AllReadyH.cons rfl (fun K hK => ?_) ?_
        · go_simp
          refine hK.out _ _ trivial (fun _ => ?_)
          clear hK K
          (try simp only [Act.put, List.getElem_toArray, List.getElem_cons_succ, List.getElem_cons_zero, List.setIfInBounds_toArray, List.set_cons_zero, List.set_cons_succ])
          refine wpAnyH_ready (rs := [6]) (by kernel_rfl) (by simp) ?_
          refine AllReadyH.cons rfl (fun K hK => ?_) ?_
          · go_simp
            (go_at_call 19; refine (number_any _ _).mono ?_; rintro e wn ⟨rfl, hbwn⟩; have hBwn : Below w.heap.size w wn := bup (by with_reducible (repeat' first | assumption | exact Below.refl _ _ | refine Below.drew ?_ | refine bdrewN ?_ _ | refine Below.setCell ?_ (by first | exact Nat.le_refl _ | (simp; done) | (simp; omega) | omega) _ | refine Below.alloc ?_ (by first | exact Nat.le_refl _ | (simp; done) | (simp; omega) | omega) _)) hbwn; have zwn := hBwn.size; have o0wn : Own wn (w.heap.size) #[.bool false, .int .i64 0, .int .i64 0, .string ⟨#[]⟩, .bool false, .int .i64 0, .int .i64 0, .int .i64 0, .int .i64 0, .int .i64 0, .slice none 0 0] := Own.keep (by with_reducible (repeat' first | assumption | refine Own.drew ?_ | refine Own.drewN ?_ _ | (refine Own.at ?_; first | rfl | (simp; done)) | refine Own.past ?_ _)) hbwn; have c0 := o0wn.cell; have f0 := o0wn.fro; have l0 := o0wn.lt; have o1wn : Own wn (w.heap.size + 1) #[.bool true, .int .i64 0, .int .i64 0, .string ⟨#[]⟩, .bool false, .int .i64 0, .int .i64 1, .int .i64 1, .int .i64 ((i : Int) + 1), .int .i64 1, .slice up m uc] := Own.keep (by with_reducible (repeat' first | assumption | refine Own.drew ?_ | refine Own.drewN ?_ _ | (refine Own.at ?_; first | rfl | (simp; done)) | refine Own.past ?_ _)) hbwn; have c1 := o1wn.cell; have f1 := o1wn.fro; have l1 := o1wn.lt; have HRn : Hid (Row En.cells 7 51 wn (w.heap.size + 2) (.slice up m uc) (colE (l.take i))) := (show Row En.cells 7 51 wn (w.heap.size + 2) (.slice up m uc) (colE (l.take i)) from Row.keep HRw.out hbwn); have HOn : Hid (wn.ownsRow (w.heap.size + 2) 51 7 (.slice up m uc) m (flatC En.cells (colE (l.take i)))) := (show wn.ownsRow (w.heap.size + 2) 51 7 (.slice up m uc) m (flatC En.cells (colE (l.take i))) from by have q := HRn.out; unfold Row at q; rw [HM.out] at q; exact q))
            go_wp2_with fail
            refine hK.out _ _ trivial (fun _ => ?_)
            clear hK K
            (try simp only [Act.put, List.getElem_toArray, List.getElem_cons_succ, List.getElem_cons_zero, List.setIfInBounds_toArray, List.set_cons_zero, List.set_cons_succ])
            refine wpAnyH_take (i := 7) (v := .agg #[.int .i64 ((i : Int) + 1), .int .i64 1, .int .i64 1, .int .i64 x, .string ⟨#[]⟩, .bool false, .int .i64 0]) rfl (by kernel_rfl) (by kernel_rfl) (by kernel_rfl) (fun _ _ _ h => h) (Or.inl ⟨by first | rfl | kernel_rfl, by intro wz hSw; (try dsimp only at hSw); go_simp⟩) (by assumption) ?_
            (try simp only [Act.put, List.getElem_toArray, List.getElem_cons_succ, List.getElem_cons_zero, List.setIfInBounds_toArray, List.set_cons_zero, List.set_cons_succ])
            refine wpAnyH_ready (rs := [8]) (by kernel_rfl) (by simp) ?_
            refine AllReadyH.cons rfl (fun K hK => ?_) ?_
            · go_simp
              refine hK.out _ _ trivial (fun _ => ?_)
              clear hK K
              (try simp only [Act.put, List.getElem_toArray, List.getElem_cons_succ, List.getElem_cons_zero, List.setIfInBounds_toArray, List.set_cons_zero, List.set_cons_succ])
              refine wpAnyH_ready (rs := [9]) (by kernel_rfl) (by simp) ?_
              refine AllReadyH.cons rfl (fun K hK => ?_) ?_
              · refine step_append_lies _ rfl (.tmp 29) (.tmp 36) 38 rfl (w.heap.size + 2) 51 i0 _ 7 64 Tryz.underlying38 HI.out HZ0.out HZ1.out HZ2.out rfl (by decide) (.slice up m uc) m (flatC En.cells (colE (l.take i))) (by simp [Act.eval, Act.put]) (HOn.out.alloc _) ⟨wn.heap.size, 0, none⟩ 1 1 (#[.int .i64 ((i : Int) + 1), .int .i64 1, .int .i64 1, .int .i64 x, .string ⟨#[]⟩, .bool false, .int .i64 0] : Array Value).toList (by simp [Act.eval, Act.put]) rfl (by exact news_pl _ _ _) (hone) (by decide) (by unfold maxLen; omega) (by omega) (by simp; omega) (wn.heap.size + 1) (by simp) ?_
                intro g5 cap5 w5 hown5 hgrow5 hat5 hlt5
                have p0 : Own w5 w.heap.size #[.bool false, .int .i64 0, .int .i64 0, .string ⟨#[]⟩, .bool false, .int .i64 0, .int .i64 0, .int .i64 0, .int .i64 0, .int .i64 0, .slice none 0 0] := own_grown (Own.past o0wn _) hgrow5 (fun g hg => by have := hgb.out g hg; omega)
                have p1 : Own w5 (w.heap.size + 1) #[.bool true, .int .i64 0, .int .i64 0, .string ⟨#[]⟩, .bool false, .int .i64 0, .int .i64 1, .int .i64 1, .int .i64 ((i : Int) + 1), .int .i64 1, .slice up m uc] := own_grown (Own.past o1wn _) hgrow5 (fun g hg => by have := hgb.out g hg; omega)
                have q1 := p1.cell
                have r1 := p1.fro
                have s1 := p1.lt
                have HG5 : Hid _ := hgrow5
                have HO5 : Hid _ := hown5
                clear hgrow5 hown5
                refine hK.out _ _ trivial (fun _ => ?_)
                clear hK K
                (try simp only [Act.put, List.getElem_toArray, List.getElem_cons_succ, List.getElem_cons_zero, List.setIfInBounds_toArray, List.set_cons_zero, List.set_cons_succ])
                refine wpAnyH_take (i := 10) (v := .pointer (some ⟨w.heap.size + 1, 10, none⟩)) rfl (by kernel_rfl) (by kernel_rfl) (by kernel_rfl) (fun _ _ _ h => h) (Or.inl ⟨by first | rfl | kernel_rfl, by intro wz hSw; (try dsimp only at hSw); go_simp⟩) (by assumption) ?_
                (try simp only [Act.put, List.getElem_toArray, List.getElem_cons_succ, List.getElem_cons_zero, List.setIfInBounds_toArray, List.set_cons_zero, List.set_cons_succ])
                refine wpAnyH_ready (rs := [11]) (by kernel_rfl) (by simp) ?_
                refine AllReadyH.cons rfl (fun K hK => ?_) ?_
                · go_simp
                  refine hK.out _ _ trivial (fun _ => ?_)
                  clear hK K
                  (try simp only [Act.put, List.getElem_toArray, List.getElem_cons_succ, List.getElem_cons_zero, List.setIfInBounds_toArray, List.set_cons_zero, List.set_cons_succ])
                  refine wpAnyH_done (by kernel_rfl) ?_ _
                  go_wp2
                  have hBn5 : Below w.heap.size w w5 := Below.grown (hBwn.alloc (by omega) _) HG5.out (Below.size (hBwn.alloc (by omega) _)) (fun k hk => by have := hgb.out k hk; omega)
                  have hrow5 : Row En.cells 7 51 w5 (w.heap.size + 2) (.slice (some ⟨g5, 0, none⟩) (m + 1) cap5) (colE (l.take (i + 1))) := by
                    have e : En.cells (enAt i x) = #[.int .i64 ((i : Int) + 1), .int .i64 1, .int .i64 1, .int .i64 x, .string ⟨#[]⟩, .bool false, .int .i64 0] := by unfold enAt; rw [HFX.out]; rfl
                    rw [colE_snoc HAi.out]
                    unfold Row
                    rw [flatC_snoc, List.length_append, HM.out, e]
                    exact HO5.out
                  refine ⟨⟨i + 1, .slice (some ⟨g5, 0, none⟩) (m + 1) cap5, (i : Int) + 1, by go_num, by omega, (show Hid _ from btm_succ i), hBn5.setCell (p := ⟨w.heap.size + 1, 10, none⟩) (by show w.heap.size ≤ w.heap.size + 1; omega) _, p0.aside (a := ⟨w.heap.size + 1, 10, none⟩) (by show w.heap.size ≠ w.heap.size + 1; omega) _, own_put p1 (k := 10) (by simp), (show Hid _ from Row.aside hrow5 _ (fun g hg => by have := (Row.lt hrow5 g hg).1; show g ≠ w.heap.size + 1; omega))⟩, by simp [intOf]; omega⟩
                exact AllReadyH.nil
              exact AllReadyH.nil
            exact AllReadyH.nil
          exact AllReadyH.nil
        refine AllReadyH.cons rfl (fun K hK => ?_) ?_
        · go_simp
          (go_at_call 19; refine (number_any _ _).mono ?_; rintro e wn ⟨rfl, hbwn⟩; have hBwn : Below w.heap.size w wn := bup (by with_reducible (repeat' first | assumption | exact Below.refl _ _ | refine Below.drew ?_ | refine bdrewN ?_ _ | refine Below.setCell ?_ (by first | exact Nat.le_refl _ | (simp; done) | (simp; omega) | omega) _ | refine Below.alloc ?_ (by first | exact Nat.le_refl _ | (simp; done) | (simp; omega) | omega) _)) hbwn; have zwn := hBwn.size; have o0wn : Own wn (w.heap.size) #[.bool false, .int .i64 0, .int .i64 0, .string ⟨#[]⟩, .bool false, .int .i64 0, .int .i64 0, .int .i64 0, .int .i64 0, .int .i64 0, .slice none 0 0] := Own.keep (by with_reducible (repeat' first | assumption | refine Own.drew ?_ | refine Own.drewN ?_ _ | (refine Own.at ?_; first | rfl | (simp; done)) | refine Own.past ?_ _)) hbwn; have c0 := o0wn.cell; have f0 := o0wn.fro; have l0 := o0wn.lt; have o1wn : Own wn (w.heap.size + 1) #[.bool true, .int .i64 0, .int .i64 0, .string ⟨#[]⟩, .bool false, .int .i64 0, .int .i64 1, .int .i64 1, .int .i64 ((i : Int) + 1), .int .i64 1, .slice up m uc] := Own.keep (by with_reducible (repeat' first | assumption | refine Own.drew ?_ | refine Own.drewN ?_ _ | (refine Own.at ?_; first | rfl | (simp; done)) | refine Own.past ?_ _)) hbwn; have c1 := o1wn.cell; have f1 := o1wn.fro; have l1 := o1wn.lt; have HRn : Hid (Row En.cells 7 51 wn (w.heap.size + 2) (.slice up m uc) (colE (l.take i))) := (show Row En.cells 7 51 wn (w.heap.size + 2) (.slice up m uc) (colE (l.take i)) from Row.keep HRw.out hbwn); have HOn : Hid (wn.ownsRow (w.heap.size + 2) 51 7 (.slice up m uc) m (flatC En.cells (colE (l.take i)))) := (show wn.ownsRow (w.heap.size + 2) 51 7 (.slice up m uc) m (flatC En.cells (colE (l.take i))) from by have q := HRn.out; unfold Row at q; rw [HM.out] at q; exact q))
          go_wp2_with fail
          refine hK.out _ _ trivial (fun _ => ?_)
          clear hK K
          (try simp only [Act.put, List.getElem_toArray, List.getElem_cons_succ, List.getElem_cons_zero, List.setIfInBounds_toArray, List.set_cons_zero, List.set_cons_succ])
          refine wpAnyH_take (i := 7) (v := .agg #[.int .i64 ((i : Int) + 1), .int .i64 1, .int .i64 1, .int .i64 x, .string ⟨#[]⟩, .bool false, .int .i64 0]) rfl (by kernel_rfl) (by kernel_rfl) (by kernel_rfl) (fun _ _ _ h => h) (Or.inl ⟨by first | rfl | kernel_rfl, by intro wz hSw; (try dsimp only at hSw); go_simp⟩) (by assumption) ?_
          (try simp only [Act.put, List.getElem_toArray, List.getElem_cons_succ, List.getElem_cons_zero, List.setIfInBounds_toArray, List.set_cons_zero, List.set_cons_succ])
          refine wpAnyH_ready (rs := [1, 8]) (by kernel_rfl) (by simp) ?_
          refine AllReadyH.cons rfl (fun K hK => ?_) ?_
          · go_simp
            refine hK.out _ _ trivial (fun _ => ?_)
            clear hK K
            (try simp only [Act.put, List.getElem_toArray, List.getElem_cons_succ, List.getElem_cons_zero, List.setIfInBounds_toArray, List.set_cons_zero, List.set_cons_succ])
            refine wpAnyH_ready (rs := [8]) (by kernel_rfl) (by simp) ?_
            refine AllReadyH.cons rfl (fun K hK => ?_) ?_
            · go_simp
              refine hK.out _ _ trivial (fun _ => ?_)
              clear hK K
              (try simp only [Act.put, List.getElem_toArray, List.getElem_cons_succ, List.getElem_cons_zero, List.setIfInBounds_toArray, List.set_cons_zero, List.set_cons_succ])
              refine wpAnyH_ready (rs := [9]) (by kernel_rfl) (by simp) ?_
              refine AllReadyH.cons rfl (fun K hK => ?_) ?_
              · refine step_append_lies _ rfl (.tmp 29) (.tmp 36) 38 rfl (w.heap.size + 2) 51 i0 _ 7 64 Tryz.underlying38 HI.out HZ0.out HZ1.out HZ2.out rfl (by decide) (.slice up m uc) m (flatC En.cells (colE (l.take i))) (by simp [Act.eval, Act.put]) (HOn.out.alloc _) ⟨wn.heap.size, 0, none⟩ 1 1 (#[.int .i64 ((i : Int) + 1), .int .i64 1, .int .i64 1, .int .i64 x, .string ⟨#[]⟩, .bool false, .int .i64 0] : Array Value).toList (by simp [Act.eval, Act.put]) rfl (by exact news_pl _ _ _) (hone) (by decide) (by unfold maxLen; omega) (by omega) (by simp; omega) (wn.heap.size + 1) (by simp) ?_
                intro g5 cap5 w5 hown5 hgrow5 hat5 hlt5
                have p0 : Own w5 w.heap.size #[.bool false, .int .i64 0, .int .i64 0, .string ⟨#[]⟩, .bool false, .int .i64 0, .int .i64 0, .int .i64 0, .int .i64 0, .int .i64 0, .slice none 0 0] := own_grown (Own.past o0wn _) hgrow5 (fun g hg => by have := hgb.out g hg; omega)
                have p1 : Own w5 (w.heap.size + 1) #[.bool true, .int .i64 0, .int .i64 0, .string ⟨#[]⟩, .bool false, .int .i64 0, .int .i64 1, .int .i64 1, .int .i64 ((i : Int) + 1), .int .i64 1, .slice up m uc] := own_grown (Own.past o1wn _) hgrow5 (fun g hg => by have := hgb.out g hg; omega)
                have q1 := p1.cell
                have r1 := p1.fro
                have s1 := p1.lt
                have HG5 : Hid _ := hgrow5
                have HO5 : Hid _ := hown5
                clear hgrow5 hown5
                refine hK.out _ _ trivial (fun _ => ?_)
                clear hK K
                (try simp only [Act.put, List.getElem_toArray, List.getElem_cons_succ, List.getElem_cons_zero, List.setIfInBounds_toArray, List.set_cons_zero, List.set_cons_succ])
                refine wpAnyH_take (i := 10) (v := .pointer (some ⟨w.heap.size + 1, 10, none⟩)) rfl (by kernel_rfl) (by kernel_rfl) (by kernel_rfl) (fun _ _ _ h => h) (Or.inl ⟨by first | rfl | kernel_rfl, by intro wz hSw; (try dsimp only at hSw); go_simp⟩) (by assumption) ?_
                (try simp only [Act.put, List.getElem_toArray, List.getElem_cons_succ, List.getElem_cons_zero, List.setIfInBounds_toArray, List.set_cons_zero, List.set_cons_succ])
                refine wpAnyH_ready (rs := [11]) (by kernel_rfl) (by simp) ?_
                refine AllReadyH.cons rfl (fun K hK => ?_) ?_
                · go_simp
                  refine hK.out _ _ trivial (fun _ => ?_)
                  clear hK K
                  (try simp only [Act.put, List.getElem_toArray, List.getElem_cons_succ, List.getElem_cons_zero, List.setIfInBounds_toArray, List.set_cons_zero, List.set_cons_succ])
                  refine wpAnyH_done (by kernel_rfl) ?_ _
                  go_wp2
                  have hBn5 : Below w.heap.size w w5 := Below.grown (hBwn.alloc (by omega) _) HG5.out (Below.size (hBwn.alloc (by omega) _)) (fun k hk => by have := hgb.out k hk; omega)
                  have hrow5 : Row En.cells 7 51 w5 (w.heap.size + 2) (.slice (some ⟨g5, 0, none⟩) (m + 1) cap5) (colE (l.take (i + 1))) := by
                    have e : En.cells (enAt i x) = #[.int .i64 ((i : Int) + 1), .int .i64 1, .int .i64 1, .int .i64 x, .string ⟨#[]⟩, .bool false, .int .i64 0] := by unfold enAt; rw [HFX.out]; rfl
                    rw [colE_snoc HAi.out]
                    unfold Row
                    rw [flatC_snoc, List.length_append, HM.out, e]
                    exact HO5.out
                  refine ⟨⟨i + 1, .slice (some ⟨g5, 0, none⟩) (m + 1) cap5, (i : Int) + 1, by go_num, by omega, (show Hid _ from btm_succ i), hBn5.setCell (p := ⟨w.heap.size + 1, 10, none⟩) (by show w.heap.size ≤ w.heap.size + 1; omega) _, p0.aside (a := ⟨w.heap.size + 1, 10, none⟩) (by show w.heap.size ≠ w.heap.size + 1; omega) _, own_put p1 (k := 10) (by simp), (show Hid _ from Row.aside hrow5 _ (fun g hg => by have := (Row.lt hrow5 g hg).1; show g ≠ w.heap.size + 1; omega))⟩, by simp [intOf]; omega⟩
                exact AllReadyH.nil
              exact AllReadyH.nil
            exact AllReadyH.nil
          refine AllReadyH.cons rfl (fun K hK => ?_) ?_
          · go_simp
            refine hK.out _ _ trivial (fun _ => ?_)
            clear hK K
            (try simp only [Act.put, List.getElem_toArray, List.getElem_cons_succ, List.getElem_cons_zero, List.setIfInBounds_toArray, List.set_cons_zero, List.set_cons_succ])
            refine wpAnyH_ready (rs := [1]) (by kernel_rfl) (by simp) ?_
            refine AllReadyH.cons rfl (fun K hK => ?_) ?_
            · go_simp
              refine hK.out _ _ trivial (fun _ => ?_)
              clear hK K
              (try simp only [Act.put, List.getElem_toArray, List.getElem_cons_succ, List.getElem_cons_zero, List.setIfInBounds_toArray, List.set_cons_zero, List.set_cons_succ])
              refine wpAnyH_ready (rs := [9]) (by kernel_rfl) (by simp) ?_
              refine AllReadyH.cons rfl (fun K hK => ?_) ?_
              · refine step_append_lies _ rfl (.tmp 29) (.tmp 36) 38 rfl (w.heap.size + 2) 51 i0 _ 7 64 Tryz.underlying38 HI.out HZ0.out HZ1.out HZ2.out rfl (by decide) (.slice up m uc) m (flatC En.cells (colE (l.take i))) (by simp [Act.eval, Act.put]) (HOn.out.alloc _) ⟨wn.heap.size, 0, none⟩ 1 1 (#[.int .i64 ((i : Int) + 1), .int .i64 1, .int .i64 1, .int .i64 x, .string ⟨#[]⟩, .bool false, .int .i64 0] : Array Value).toList (by simp [Act.eval, Act.put]) rfl (by exact news_pl _ _ _) (hone) (by decide) (by unfold maxLen; omega) (by omega) (by simp; omega) (wn.heap.size + 1) (by simp) ?_
                intro g5 cap5 w5 hown5 hgrow5 hat5 hlt5
                have p0 : Own w5 w.heap.size #[.bool false, .int .i64 0, .int .i64 0, .string ⟨#[]⟩, .bool false, .int .i64 0, .int .i64 0, .int .i64 0, .int .i64 0, .int .i64 0, .slice none 0 0] := own_grown (Own.past o0wn _) hgrow5 (fun g hg => by have := hgb.out g hg; omega)
                have p1 : Own w5 (w.heap.size + 1) #[.bool true, .int .i64 0, .int .i64 0, .string ⟨#[]⟩, .bool false, .int .i64 0, .int .i64 1, .int .i64 1, .int .i64 ((i : Int) + 1), .int .i64 1, .slice up m uc] := own_grown (Own.past o1wn _) hgrow5 (fun g hg => by have := hgb.out g hg; omega)
                have q1 := p1.cell
                have r1 := p1.fro
                have s1 := p1.lt
                have HG5 : Hid _ := hgrow5
                have HO5 : Hid _ := hown5
                clear hgrow5 hown5
                refine hK.out _ _ trivial (fun _ => ?_)
                clear hK K
                (try simp only [Act.put, List.getElem_toArray, List.getElem_cons_succ, List.getElem_cons_zero, List.setIfInBounds_toArray, List.set_cons_zero, List.set_cons_succ])
                refine wpAnyH_take (i := 10) (v := .pointer (some ⟨w.heap.size + 1, 10, none⟩)) rfl (by kernel_rfl) (by kernel_rfl) (by kernel_rfl) (fun _ _ _ h => h) (Or.inl ⟨by first | rfl | kernel_rfl, by intro wz hSw; (try dsimp only at hSw); go_simp⟩) (by assumption) ?_
                (try simp only [Act.put, List.getElem_toArray, List.getElem_cons_succ, List.getElem_cons_zero, List.setIfInBounds_toArray, List.set_cons_zero, List.set_cons_succ])
                refine wpAnyH_ready (rs := [11]) (by kernel_rfl) (by simp) ?_
                refine AllReadyH.cons rfl (fun K hK => ?_) ?_
                · go_simp
                  refine hK.out _ _ trivial (fun _ => ?_)
                  clear hK K
                  (try simp only [Act.put, List.getElem_toArray, List.getElem_cons_succ, List.getElem_cons_zero, List.setIfInBounds_toArray, List.set_cons_zero, List.set_cons_succ])
                  refine wpAnyH_done (by kernel_rfl) ?_ _
                  go_wp2
                  have hBn5 : Below w.heap.size w w5 := Below.grown (hBwn.alloc (by omega) _) HG5.out (Below.size (hBwn.alloc (by omega) _)) (fun k hk => by have := hgb.out k hk; omega)
                  have hrow5 : Row En.cells 7 51 w5 (w.heap.size + 2) (.slice (some ⟨g5, 0, none⟩) (m + 1) cap5) (colE (l.take (i + 1))) := by
                    have e : En.cells (enAt i x) = #[.int .i64 ((i : Int) + 1), .int .i64 1, .int .i64 1, .int .i64 x, .string ⟨#[]⟩, .bool false, .int .i64 0] := by unfold enAt; rw [HFX.out]; rfl
                    rw [colE_snoc HAi.out]
                    unfold Row
                    rw [flatC_snoc, List.length_append, HM.out, e]
                    exact HO5.out
                  refine ⟨⟨i + 1, .slice (some ⟨g5, 0, none⟩) (m + 1) cap5, (i : Int) + 1, by go_num, by omega, (show Hid _ from btm_succ i), hBn5.setCell (p := ⟨w.heap.size + 1, 10, none⟩) (by show w.heap.size ≤ w.heap.size + 1; omega) _, p0.aside (a := ⟨w.heap.size + 1, 10, none⟩) (by show w.heap.size ≠ w.heap.size + 1; omega) _, own_put p1 (k := 10) (by simp), (show Hid _ from Row.aside hrow5 _ (fun g hg => by have := (Row.lt hrow5 g hg).1; show g ≠ w.heap.size + 1; omega))⟩, by simp [intOf]; omega⟩
                exact AllReadyH.nil
              exact AllReadyH.nil
            exact AllReadyH.nil
          exact AllReadyH.nil
        exact AllReadyH.nil
    · have hlt' : ¬ (i : Int) < n := by omega
      have hin : i = n := by omega
      subst hin
      go_wp2
      refine bodyPost_ret (v := .agg #[.bool true, .int .i64 0, .int .i64 0, .string ⟨#[]⟩, .bool false, .int .i64 0, .int .i64 1, .int .i64 1, .int .i64 bt, .int .i64 1, .slice up m uc]) (by simp [results, Tryz.results18, go_sem, c0, f0, l0]) rfl ⟨⟨up, uc, ?_, ?_⟩, by with_reducible (repeat' first | assumption | exact Below.refl _ _ | refine Below.drew ?_ | refine bdrewN ?_ _ | refine Below.setCell ?_ (by first | exact Nat.le_refl _ | (simp; done) | (simp; omega) | omega) _ | refine Below.alloc ?_ (by first | exact Nat.le_refl _ | (simp; done) | (simp; omega) | omega) _)⟩
      · rw [HBT.out, HMI.out]
      · have q := HR.out
        rw [List.take_of_length_le (by rw [HV.out.len]; omega), HMI.out] at q
        repeat refine Row.aside ?_ _ (fun g hg => by have := (Row.lt HR.out g (by rw [HMI.out]; exact hg)).1; simp; omega)
        exact q
end Go.Proofs.YtcgcnpcimfaecaaGreatDoor
namespace Go.Proofs.YtcgcnpcimfaecaaGreatDoor
open Go.RowKit
set_option linter.all false
theorem ord_0 (m : Bool) (t n : Int) (s : ByteArray) (b : Bool) (c r0 r1 r2 r3 : Int) (ep : Option Addr) (ec : Nat) (w : World) : Calls Tryz.prog 57 #[.agg #[.bool m, .int .i64 t, .int .i64 n, .string s, .bool b, .int .i64 c, .int .i64 r0, .int .i64 r1, .int .i64 r2, .int .i64 r3, .slice ep 0 ec]] w fun e w' => e = .returned (.bool true) ∧ Below w.heap.size w w' := by
  go_enter Tryz.func57, Tryz.ntmps57
  go_wp2
  go_loopw [8] (fun v w' => v = .int .i64 0 ∧ Below w.heap.size w w') (fun _ _ => 0)
  case atStart => exact ⟨rfl, by with_reducible (repeat' first | assumption | exact Below.refl _ _ | refine Below.drew ?_ | refine bdrewN ?_ _ | refine Below.setCell ?_ (by first | exact Nat.le_refl _ | (simp; done) | (simp; omega) | omega) _ | refine Below.alloc ?_ (by first | exact Nat.le_refl _ | (simp; done) | (simp; omega) | omega) _)⟩
  case round =>
    obtain ⟨rfl, hB3⟩ := hrel
    go_wp2
    go_ret
    exact ⟨rfl, by with_reducible (repeat' first | assumption | exact Below.refl _ _ | refine Below.drew ?_ | refine bdrewN ?_ _ | refine Below.setCell ?_ (by first | exact Nat.le_refl _ | (simp; done) | (simp; omega) | omega) _ | refine Below.alloc ?_ (by first | exact Nat.le_refl _ | (simp; done) | (simp; omega) | omega) _)⟩
set_option maxRecDepth 100000 in
set_option maxHeartbeats 4000000 in
theorem ord_y (m : Bool) (t n : Int) (s : ByteArray) (b : Bool) (c r0 r1 r2 r3 : Int) (eb eo k ec : Nat) (es : List En) (w : World) (hla : eb < w.heap.size) (HA : ∀ i x, es[i]? = some x → ∀ j, j < 7 → w.cell? ⟨eb, eo + i * 7 + j, none⟩ = (En.cells x)[j]?) (hn : es.length = k) (hc : k ≤ ec) (hl : k ≤ 1099511627776) (hN : Hid (∀ x ∈ es, I64 x.n)) : Calls Tryz.prog 57 #[.agg #[.bool m, .int .i64 t, .int .i64 n, .string s, .bool b, .int .i64 c, .int .i64 r0, .int .i64 r1, .int .i64 r2, .int .i64 r3, .slice (some ⟨eb, eo, none⟩) k ec]] w fun e w' => e = .returned (.bool (entsB r0 r1 r2 r3 es)) ∧ Below w.heap.size w w' := by
  have mixed : Tryz.prog.follows .mixedOrders = true := by kernel_rfl
  have HA' : Hid _ := HA
  have HL : Hid (es.length = k) := hn
  clear HA hn
  go_enter Tryz.func57, Tryz.ntmps57
  go_wp2
  go_loopw [8] (fun v w' => ∃ i : Nat, v = .int .i64 i ∧ i ≤ k ∧ Hid (∀ j x, j < i → es[j]? = some x → entA r0 r1 r2 r3 es j x = true) ∧ Below w.heap.size w w' ∧ Own w' w.heap.size #[.bool m, .int .i64 t, .int .i64 n, .string s, .bool b, .int .i64 c, .int .i64 r0, .int .i64 r1, .int .i64 r2, .int .i64 r3, .slice (some ⟨eb, eo, none⟩) k ec]) (fun v _ => k - (intOf v).toNat)
  case atStart => exact ⟨0, rfl, by omega, (show Hid _ from fun j x hj => absurd hj (by omega)), by with_reducible (repeat' first | assumption | exact Below.refl _ _ | refine Below.drew ?_ | refine bdrewN ?_ _ | refine Below.setCell ?_ (by first | exact Nat.le_refl _ | (simp; done) | (simp; omega) | omega) _ | refine Below.alloc ?_ (by first | exact Nat.le_refl _ | (simp; done) | (simp; omega) | omega) _), by with_reducible (repeat' first | assumption | refine Own.drew ?_ | refine Own.drewN ?_ _ | (refine Own.at ?_; first | rfl | (simp; done)) | refine Own.past ?_ _)⟩
  case round =>
    obtain ⟨i, rfl, hi, htk, hB3, o3⟩ := hrel
    have z3 := hB3.size
    have c0 := o3.cell
    have f0 := o3.fro
    have l0 := o3.lt
    by_cases hlt : i < k
    · have hlt' : (i : Int) < k := by omega
      have hai : es[i]? = some (es[i]'(by rw [HL.out]; exact hlt)) := List.getElem?_eq_getElem _
      have hin : I64 (es[i]'(by rw [HL.out]; exact hlt)).n := hN.out _ (List.getElem_mem _)
      have HAi : Hid _ := hai
      revert HAi hin
      generalize (es[i]'(by rw [HL.out]; exact hlt)) = x
      intro hin HAi
      clear hai
      have y0 : w.cell? ⟨eb, eo + i * 7, none⟩ = some (.int .i64 x.r) := HA'.out i _ HAi.out 0 (by decide)
      have x0 := (hB3.cell (p := ⟨eb, eo + i * 7, none⟩) hla).trans y0
      clear y0
      have y1 : w.cell? ⟨eb, eo + i * 7 + 1, none⟩ = some (.int .i64 x.k) := HA'.out i _ HAi.out 1 (by decide)
      have x1 := (hB3.cell (p := ⟨eb, eo + i * 7 + 1, none⟩) hla).trans y1
      clear y1
      have y2 : w.cell? ⟨eb, eo + i * 7 + 2, none⟩ = some (.int .i64 x.t) := HA'.out i _ HAi.out 2 (by decide)
      have x2 := (hB3.cell (p := ⟨eb, eo + i * 7 + 2, none⟩) hla).trans y2
      clear y2
      have y3 : w.cell? ⟨eb, eo + i * 7 + 3, none⟩ = some (.int .i64 x.n) := HA'.out i _ HAi.out 3 (by decide)
      have x3 := (hB3.cell (p := ⟨eb, eo + i * 7 + 3, none⟩) hla).trans y3
      clear y3
      have y4 : w.cell? ⟨eb, eo + i * 7 + 4, none⟩ = some (.string x.s) := HA'.out i _ HAi.out 4 (by decide)
      have x4 := (hB3.cell (p := ⟨eb, eo + i * 7 + 4, none⟩) hla).trans y4
      clear y4
      have y5 : w.cell? ⟨eb, eo + i * 7 + 5, none⟩ = some (.bool x.b) := HA'.out i _ HAi.out 5 (by decide)
      have x5 := (hB3.cell (p := ⟨eb, eo + i * 7 + 5, none⟩) hla).trans y5
      clear y5
      have y6 : w.cell? ⟨eb, eo + i * 7 + 6, none⟩ = some (.int .i64 x.c) := HA'.out i _ HAi.out 6 (by decide)
      have x6 := (hB3.cell (p := ⟨eb, eo + i * 7 + 6, none⟩) hla).trans y6
      clear y6
      have hI1 := fun w1 => Ad.in_any r0 r1 r2 r3 x.r x.k w1
      have hM1 := fun w1 => mayV x.t x.n x.s x.b x.c w1 hin
      cases hI : Ad.inB r0 r1 r2 r3 x.r x.k
      · rw [hI] at hI1
        have HR : Hid (entsB r0 r1 r2 r3 es = false) := (show _ from ents_no HAi.out (by unfold entA; rw [hI]; rfl))
        clear hM1 hI
        go_wp2_with (first | (go_at_call 99; refine (hI1 _).mono ?_; rintro e wa ⟨rfl, hbwa⟩; have hBwa : Below w.heap.size w wa := bup (by with_reducible (repeat' first | assumption | exact Below.refl _ _ | refine Below.drew ?_ | refine bdrewN ?_ _ | refine Below.setCell ?_ (by first | exact Nat.le_refl _ | (simp; done) | (simp; omega) | omega) _ | refine Below.alloc ?_ (by first | exact Nat.le_refl _ | (simp; done) | (simp; omega) | omega) _)) hbwa; have zwa := hBwa.size; have o0wa : Own wa (w.heap.size) #[.bool m, .int .i64 t, .int .i64 n, .string s, .bool b, .int .i64 c, .int .i64 r0, .int .i64 r1, .int .i64 r2, .int .i64 r3, .slice (some ⟨eb, eo, none⟩) k ec] := Own.keep (by with_reducible (repeat' first | assumption | refine Own.drew ?_ | refine Own.drewN ?_ _ | (refine Own.at ?_; first | rfl | (simp; done)) | refine Own.past ?_ _)) hbwa; have c0 := o0wa.cell; have f0 := o0wa.fro; have l0 := o0wa.lt; have o1wa : Own wa (wr.heap.size) #[.int .i64 x.r, .int .i64 x.k, .int .i64 x.t, .int .i64 x.n, .string x.s, .bool x.b, .int .i64 x.c] := Own.keep (by with_reducible (repeat' first | assumption | refine Own.drew ?_ | refine Own.drewN ?_ _ | (refine Own.at ?_; first | rfl | (simp; done)) | refine Own.past ?_ _)) hbwa; have c1 := o1wa.cell; have f1 := o1wa.fro; have l1 := o1wa.lt))
        go_ret
        exact ⟨by rw [HR.out]; rfl, by with_reducible (repeat' first | assumption | exact Below.refl _ _ | refine Below.drew ?_ | refine bdrewN ?_ _ | refine Below.setCell ?_ (by first | exact Nat.le_refl _ | (simp; done) | (simp; omega) | omega) _ | refine Below.alloc ?_ (by first | exact Nat.le_refl _ | (simp; done) | (simp; omega) | omega) _)⟩
      cases hM : mayB x.t x.n x.s x.b x.c
      · rw [hI] at hI1
        rw [hM] at hM1
        have HR : Hid (entsB r0 r1 r2 r3 es = false) := (show _ from ents_no HAi.out (by unfold entA; rw [hI, hM]; rfl))
        clear hM hI
        go_wp2_with (first | (go_at_call 99; refine (hI1 _).mono ?_; rintro e wa ⟨rfl, hbwa⟩; have hBwa : Below w.heap.size w wa := bup (by with_reducible (repeat' first | assumption | exact Below.refl _ _ | refine Below.drew ?_ | refine bdrewN ?_ _ | refine Below.setCell ?_ (by first | exact Nat.le_refl _ | (simp; done) | (simp; omega) | omega) _ | refine Below.alloc ?_ (by first | exact Nat.le_refl _ | (simp; done) | (simp; omega) | omega) _)) hbwa; have zwa := hBwa.size; have o0wa : Own wa (w.heap.size) #[.bool m, .int .i64 t, .int .i64 n, .string s, .bool b, .int .i64 c, .int .i64 r0, .int .i64 r1, .int .i64 r2, .int .i64 r3, .slice (some ⟨eb, eo, none⟩) k ec] := Own.keep (by with_reducible (repeat' first | assumption | refine Own.drew ?_ | refine Own.drewN ?_ _ | (refine Own.at ?_; first | rfl | (simp; done)) | refine Own.past ?_ _)) hbwa; have c0 := o0wa.cell; have f0 := o0wa.fro; have l0 := o0wa.lt; have o1wa : Own wa (wr.heap.size) #[.int .i64 x.r, .int .i64 x.k, .int .i64 x.t, .int .i64 x.n, .string x.s, .bool x.b, .int .i64 x.c] := Own.keep (by with_reducible (repeat' first | assumption | refine Own.drew ?_ | refine Own.drewN ?_ _ | (refine Own.at ?_; first | rfl | (simp; done)) | refine Own.past ?_ _)) hbwa; have c1 := o1wa.cell; have f1 := o1wa.fro; have l1 := o1wa.lt) | (go_at_call 100; refine (hM1 _).mono ?_; rintro e wb ⟨rfl, hbwb⟩; have hBwb : Below w.heap.size w wb := bup (by with_reducible (repeat' first | assumption | exact Below.refl _ _ | refine Below.drew ?_ | refine bdrewN ?_ _ | refine Below.setCell ?_ (by first | exact Nat.le_refl _ | (simp; done) | (simp; omega) | omega) _ | refine Below.alloc ?_ (by first | exact Nat.le_refl _ | (simp; done) | (simp; omega) | omega) _)) hbwb; have zwb := hBwb.size; have o0wb : Own wb (w.heap.size) #[.bool m, .int .i64 t, .int .i64 n, .string s, .bool b, .int .i64 c, .int .i64 r0, .int .i64 r1, .int .i64 r2, .int .i64 r3, .slice (some ⟨eb, eo, none⟩) k ec] := Own.keep (by with_reducible (repeat' first | assumption | refine Own.drew ?_ | refine Own.drewN ?_ _ | (refine Own.at ?_; first | rfl | (simp; done)) | refine Own.past ?_ _)) hbwb; have c0 := o0wb.cell; have f0 := o0wb.fro; have l0 := o0wb.lt; have o1wb : Own wb (wr.heap.size) #[.int .i64 x.r, .int .i64 x.k, .int .i64 x.t, .int .i64 x.n, .string x.s, .bool x.b, .int .i64 x.c] := Own.keep (by with_reducible (repeat' first | assumption | refine Own.drew ?_ | refine Own.drewN ?_ _ | (refine Own.at ?_; first | rfl | (simp; done)) | refine Own.past ?_ _)) hbwb; have c1 := o1wb.cell; have f1 := o1wb.fro; have l1 := o1wb.lt))
        go_ret
        exact ⟨by rw [HR.out]; rfl, by with_reducible (repeat' first | assumption | exact Below.refl _ _ | refine Below.drew ?_ | refine bdrewN ?_ _ | refine Below.setCell ?_ (by first | exact Nat.le_refl _ | (simp; done) | (simp; omega) | omega) _ | refine Below.alloc ?_ (by first | exact Nat.le_refl _ | (simp; done) | (simp; omega) | omega) _)⟩
      rw [hI] at hI1
      rw [hM] at hM1
      have HI : Hid _ := hI
      have HM : Hid _ := hM
      clear hI hM
      by_cases hi0 : i = 0
      · subst hi0
        have HT : Hid (∀ j x, j < 1 → es[j]? = some x → entA r0 r1 r2 r3 es j x = true) := (show ∀ j x, j < 1 → es[j]? = some x → entA r0 r1 r2 r3 es j x = true from fun j x' hj hx' => by
          have : j = 0 := by omega
          subst this
          have := HAi.out.symm.trans hx'
          cases this
          unfold entA
          rw [HI.out, HM.out, show 0 - 1 = 0 from rfl, HAi.out]; rfl)
        replace x0 : wr.cell? ⟨eb, eo, none⟩ = some (.int .i64 x.r) := by simpa using x0
        replace x1 : wr.cell? ⟨eb, eo + 1, none⟩ = some (.int .i64 x.k) := by simpa using x1
        replace x2 : wr.cell? ⟨eb, eo + 2, none⟩ = some (.int .i64 x.t) := by simpa using x2
        replace x3 : wr.cell? ⟨eb, eo + 3, none⟩ = some (.int .i64 x.n) := by simpa using x3
        replace x4 : wr.cell? ⟨eb, eo + 4, none⟩ = some (.string x.s) := by simpa using x4
        replace x5 : wr.cell? ⟨eb, eo + 5, none⟩ = some (.bool x.b) := by simpa using x5
        replace x6 : wr.cell? ⟨eb, eo + 6, none⟩ = some (.int .i64 x.c) := by simpa using x6
        go_wp2_with (first | (go_at_call 99; refine (hI1 _).mono ?_; rintro e wa ⟨rfl, hbwa⟩; have hBwa : Below w.heap.size w wa := bup (by with_reducible (repeat' first | assumption | exact Below.refl _ _ | refine Below.drew ?_ | refine bdrewN ?_ _ | refine Below.setCell ?_ (by first | exact Nat.le_refl _ | (simp; done) | (simp; omega) | omega) _ | refine Below.alloc ?_ (by first | exact Nat.le_refl _ | (simp; done) | (simp; omega) | omega) _)) hbwa; have zwa := hBwa.size; have o0wa : Own wa (w.heap.size) #[.bool m, .int .i64 t, .int .i64 n, .string s, .bool b, .int .i64 c, .int .i64 r0, .int .i64 r1, .int .i64 r2, .int .i64 r3, .slice (some ⟨eb, eo, none⟩) k ec] := Own.keep (by with_reducible (repeat' first | assumption | refine Own.drew ?_ | refine Own.drewN ?_ _ | (refine Own.at ?_; first | rfl | (simp; done)) | refine Own.past ?_ _)) hbwa; have c0 := o0wa.cell; have f0 := o0wa.fro; have l0 := o0wa.lt; have o1wa : Own wa (wr.heap.size) #[.int .i64 x.r, .int .i64 x.k, .int .i64 x.t, .int .i64 x.n, .string x.s, .bool x.b, .int .i64 x.c] := Own.keep (by with_reducible (repeat' first | assumption | refine Own.drew ?_ | refine Own.drewN ?_ _ | (refine Own.at ?_; first | rfl | (simp; done)) | refine Own.past ?_ _)) hbwa; have c1 := o1wa.cell; have f1 := o1wa.fro; have l1 := o1wa.lt) | (go_at_call 100; refine (hM1 _).mono ?_; rintro e wb ⟨rfl, hbwb⟩; have hBwb : Below w.heap.size w wb := bup (by with_reducible (repeat' first | assumption | exact Below.refl _ _ | refine Below.drew ?_ | refine bdrewN ?_ _ | refine Below.setCell ?_ (by first | exact Nat.le_refl _ | (simp; done) | (simp; omega) | omega) _ | refine Below.alloc ?_ (by first | exact Nat.le_refl _ | (simp; done) | (simp; omega) | omega) _)) hbwb; have zwb := hBwb.size; have o0wb : Own wb (w.heap.size) #[.bool m, .int .i64 t, .int .i64 n, .string s, .bool b, .int .i64 c, .int .i64 r0, .int .i64 r1, .int .i64 r2, .int .i64 r3, .slice (some ⟨eb, eo, none⟩) k ec] := Own.keep (by with_reducible (repeat' first | assumption | refine Own.drew ?_ | refine Own.drewN ?_ _ | (refine Own.at ?_; first | rfl | (simp; done)) | refine Own.past ?_ _)) hbwb; have c0 := o0wb.cell; have f0 := o0wb.fro; have l0 := o0wb.lt; have o1wb : Own wb (wr.heap.size) #[.int .i64 x.r, .int .i64 x.k, .int .i64 x.t, .int .i64 x.n, .string x.s, .bool x.b, .int .i64 x.c] := Own.keep (by with_reducible (repeat' first | assumption | refine Own.drew ?_ | refine Own.drewN ?_ _ | (refine Own.at ?_; first | rfl | (simp; done)) | refine Own.past ?_ _)) hbwb; have c1 := o1wb.cell; have f1 := o1wb.fro; have l1 := o1wb.lt))
        refine wp_region_held_drew (S := fun w' => w'.cell? ⟨w.heap.size, 10, none⟩ = some (.slice (some ⟨eb, eo, none⟩) k ec) ∧ w'.cell? ⟨wr.heap.size, 0, none⟩ = some (.int .i64 x.r) ∧ w'.cell? ⟨wr.heap.size, 1, none⟩ = some (.int .i64 x.k)) (by kernel_rfl) (by (try dsimp only); ((repeat' apply And.intro) <;> (first | (go_keep; done) | (go_simp; done)))) (fun hHeld => ?_)
        refine wpAnyH_take (i := 0) (v := .int .i64 0) rfl (by kernel_rfl) (by kernel_rfl) (by kernel_rfl) (fun _ _ _ h => h) (Or.inl ⟨by first | rfl | kernel_rfl, by intro wz hSw; (try dsimp only at hSw); go_simp⟩) (by assumption) ?_
        (try simp only [Act.put, List.getElem_toArray, List.getElem_cons_succ, List.getElem_cons_zero, List.setIfInBounds_toArray, List.set_cons_zero, List.set_cons_succ])
        refine wpAnyH_take (i := 1) (v := .bool false) rfl (by kernel_rfl) (by kernel_rfl) (by kernel_rfl) (fun _ _ _ h => h) (Or.inl ⟨by first | rfl | kernel_rfl, by intro wz hSw; (try dsimp only at hSw); go_simp⟩) (by assumption) ?_
        (try simp only [Act.put, List.getElem_toArray, List.getElem_cons_succ, List.getElem_cons_zero, List.setIfInBounds_toArray, List.set_cons_zero, List.set_cons_succ])
        refine wpAnyH_take (i := 2) (v := .bool false) rfl (by kernel_rfl) (by kernel_rfl) (by kernel_rfl) (fun _ _ _ h => h) (Or.inl ⟨by first | rfl | kernel_rfl, by intro wz hSw; (try dsimp only at hSw); go_simp⟩) (by assumption) ?_
        (try simp only [Act.put, List.getElem_toArray, List.getElem_cons_succ, List.getElem_cons_zero, List.setIfInBounds_toArray, List.set_cons_zero, List.set_cons_succ])
        refine wpAnyH_take (i := 3) (v := undef) rfl (by kernel_rfl) (by kernel_rfl) (by kernel_rfl) (fun _ _ _ h => h) (Or.inr ⟨by kernel_rfl, rfl⟩) (by assumption) ?_
        (try simp only [Act.put, List.getElem_toArray, List.getElem_cons_succ, List.getElem_cons_zero, List.setIfInBounds_toArray, List.set_cons_zero, List.set_cons_succ])
        refine wpAnyH_take (i := 4) (v := undef) rfl (by kernel_rfl) (by kernel_rfl) (by kernel_rfl) (fun _ _ _ h => h) (Or.inr ⟨by kernel_rfl, rfl⟩) (by assumption) ?_
        (try simp only [Act.put, List.getElem_toArray, List.getElem_cons_succ, List.getElem_cons_zero, List.setIfInBounds_toArray, List.set_cons_zero, List.set_cons_succ])
        refine wpAnyH_take (i := 5) (v := undef) rfl (by kernel_rfl) (by kernel_rfl) (by kernel_rfl) (fun _ _ _ h => h) (Or.inr ⟨by kernel_rfl, rfl⟩) (by assumption) ?_
        (try simp only [Act.put, List.getElem_toArray, List.getElem_cons_succ, List.getElem_cons_zero, List.setIfInBounds_toArray, List.set_cons_zero, List.set_cons_succ])
        refine wpAnyH_take (i := 6) (v := undef) rfl (by kernel_rfl) (by kernel_rfl) (by kernel_rfl) (fun _ _ _ h => h) (Or.inr ⟨by kernel_rfl, rfl⟩) (by assumption) ?_
        (try simp only [Act.put, List.getElem_toArray, List.getElem_cons_succ, List.getElem_cons_zero, List.setIfInBounds_toArray, List.set_cons_zero, List.set_cons_succ])
        refine wpAnyH_take (i := 7) (v := undef) rfl (by kernel_rfl) (by kernel_rfl) (by kernel_rfl) (fun _ _ _ h => h) (Or.inr ⟨by kernel_rfl, rfl⟩) (by assumption) ?_
        (try simp only [Act.put, List.getElem_toArray, List.getElem_cons_succ, List.getElem_cons_zero, List.setIfInBounds_toArray, List.set_cons_zero, List.set_cons_succ])
        refine wpAnyH_take (i := 8) (v := undef) rfl (by kernel_rfl) (by kernel_rfl) (by kernel_rfl) (fun _ _ _ h => h) (Or.inr ⟨by kernel_rfl, rfl⟩) (by assumption) ?_
        (try simp only [Act.put, List.getElem_toArray, List.getElem_cons_succ, List.getElem_cons_zero, List.setIfInBounds_toArray, List.set_cons_zero, List.set_cons_succ])
        refine wpAnyH_take (i := 9) (v := undef) rfl (by kernel_rfl) (by kernel_rfl) (by kernel_rfl) (fun _ _ _ h => h) (Or.inr ⟨by kernel_rfl, rfl⟩) (by assumption) ?_
        (try simp only [Act.put, List.getElem_toArray, List.getElem_cons_succ, List.getElem_cons_zero, List.setIfInBounds_toArray, List.set_cons_zero, List.set_cons_succ])
        refine wpAnyH_take (i := 10) (v := undef) rfl (by kernel_rfl) (by kernel_rfl) (by kernel_rfl) (fun _ _ _ h => h) (Or.inr ⟨by kernel_rfl, rfl⟩) (by assumption) ?_
        (try simp only [Act.put, List.getElem_toArray, List.getElem_cons_succ, List.getElem_cons_zero, List.setIfInBounds_toArray, List.set_cons_zero, List.set_cons_succ])
        refine wpAnyH_take (i := 11) (v := undef) rfl (by kernel_rfl) (by kernel_rfl) (by kernel_rfl) (fun _ _ _ h => h) (Or.inr ⟨by kernel_rfl, rfl⟩) (by assumption) ?_
        (try simp only [Act.put, List.getElem_toArray, List.getElem_cons_succ, List.getElem_cons_zero, List.setIfInBounds_toArray, List.set_cons_zero, List.set_cons_succ])
        refine wpAnyH_take (i := 12) (v := undef) rfl (by kernel_rfl) (by kernel_rfl) (by kernel_rfl) (fun _ _ _ h => h) (Or.inr ⟨by kernel_rfl, rfl⟩) (by assumption) ?_
        (try simp only [Act.put, List.getElem_toArray, List.getElem_cons_succ, List.getElem_cons_zero, List.setIfInBounds_toArray, List.set_cons_zero, List.set_cons_succ])
        refine wpAnyH_take (i := 13) (v := undef) rfl (by kernel_rfl) (by kernel_rfl) (by kernel_rfl) (fun _ _ _ h => h) (Or.inr ⟨by kernel_rfl, rfl⟩) (by assumption) ?_
        (try simp only [Act.put, List.getElem_toArray, List.getElem_cons_succ, List.getElem_cons_zero, List.setIfInBounds_toArray, List.set_cons_zero, List.set_cons_succ])
        refine wpAnyH_take (i := 14) (v := .bool false) rfl (by kernel_rfl) (by kernel_rfl) (by kernel_rfl) (fun _ _ _ h => h) (Or.inl ⟨by first | rfl | kernel_rfl, by intro wz hSw; (try dsimp only at hSw); go_simp⟩) (by assumption) ?_
        (try simp only [Act.put, List.getElem_toArray, List.getElem_cons_succ, List.getElem_cons_zero, List.setIfInBounds_toArray, List.set_cons_zero, List.set_cons_succ])
        refine wpAnyH_done (by kernel_rfl) ?_ _
        go_wp2
        exact ⟨⟨1, by go_num, by omega, HT, by with_reducible (repeat' first | assumption | exact Below.refl _ _ | refine Below.drew ?_ | refine bdrewN ?_ _ | refine Below.setCell ?_ (by first | exact Nat.le_refl _ | (simp; done) | (simp; omega) | omega) _ | refine Below.alloc ?_ (by first | exact Nat.le_refl _ | (simp; done) | (simp; omega) | omega) _), by with_reducible (repeat' first | assumption | refine Own.drew ?_ | refine Own.drewN ?_ _ | (refine Own.at ?_; first | rfl | (simp; done)) | refine Own.past ?_ _)⟩, by simp [intOf]; omega⟩
      · obtain ⟨i0, hi1⟩ : ∃ i0, i = i0 + 1 := ⟨i - 1, by omega⟩
        have hay : es[i0]? = some (es[i0]'(by rw [HL.out]; omega)) := List.getElem?_eq_getElem _
        have HAy : Hid _ := hay
        revert HAy
        generalize (es[i0]'(by rw [HL.out]; omega)) = y
        intro HAy
        clear hay
        have w0 : w.cell? ⟨eb, eo + i0 * 7, none⟩ = some (.int .i64 y.r) := HA'.out i0 _ HAy.out 0 (by decide)
        have w1 : w.cell? ⟨eb, eo + i0 * 7 + 1, none⟩ = some (.int .i64 y.k) := HA'.out i0 _ HAy.out 1 (by decide)
        have hsub : IntKind.i64.wrap ((i : Int) - 1) = (i0 : Int) := by rw [show (i : Int) - 1 = (i0 : Int) by omega]; rw [IntKind.wrap_i64]; omega
        have hi0k : (i0 : Int) < (k : Int) := by omega
        have hi00 : (0 : Int) ≤ (i0 : Int) := by omega
        have hpos : (0 : Int) < (i : Int) := by omega
        have hd1 : decide (0 < i) = true := by simp; omega
        have hd2 : decide ((0 : Int) < (i : Int)) = true := by simp; omega
        have HI1 : Hid (i = i0 + 1) := hi1
        have HI0 : Hid (¬ i = 0) := hi0
        clear hi1 hi0
        have hB1 := fun w1 => Ad.bef_any y.r y.k x.r x.k w1
        cases hBe : Ad.befB y.r y.k x.r x.k
        · rw [hBe] at hB1
          have HR : Hid (entsB r0 r1 r2 r3 es = false) := (show _ from ents_no HAi.out (by unfold entA; rw [HI.out, HM.out, show i - 1 = i0 by have := HI1.out; omega, HAy.out]; dsimp only; rw [decide_eq_false HI0.out, hBe]; rfl))
          clear hBe
          go_wp2_with (first | (go_at_call 99; refine (hI1 _).mono ?_; rintro e wa ⟨rfl, hbwa⟩; have hBwa : Below w.heap.size w wa := bup (by with_reducible (repeat' first | assumption | exact Below.refl _ _ | refine Below.drew ?_ | refine bdrewN ?_ _ | refine Below.setCell ?_ (by first | exact Nat.le_refl _ | (simp; done) | (simp; omega) | omega) _ | refine Below.alloc ?_ (by first | exact Nat.le_refl _ | (simp; done) | (simp; omega) | omega) _)) hbwa; have zwa := hBwa.size; have o0wa : Own wa (w.heap.size) #[.bool m, .int .i64 t, .int .i64 n, .string s, .bool b, .int .i64 c, .int .i64 r0, .int .i64 r1, .int .i64 r2, .int .i64 r3, .slice (some ⟨eb, eo, none⟩) k ec] := Own.keep (by with_reducible (repeat' first | assumption | refine Own.drew ?_ | refine Own.drewN ?_ _ | (refine Own.at ?_; first | rfl | (simp; done)) | refine Own.past ?_ _)) hbwa; have c0 := o0wa.cell; have f0 := o0wa.fro; have l0 := o0wa.lt; have o1wa : Own wa (wr.heap.size) #[.int .i64 x.r, .int .i64 x.k, .int .i64 x.t, .int .i64 x.n, .string x.s, .bool x.b, .int .i64 x.c] := Own.keep (by with_reducible (repeat' first | assumption | refine Own.drew ?_ | refine Own.drewN ?_ _ | (refine Own.at ?_; first | rfl | (simp; done)) | refine Own.past ?_ _)) hbwa; have c1 := o1wa.cell; have f1 := o1wa.fro; have l1 := o1wa.lt) | (go_at_call 100; refine (hM1 _).mono ?_; rintro e wb ⟨rfl, hbwb⟩; have hBwb : Below w.heap.size w wb := bup (by with_reducible (repeat' first | assumption | exact Below.refl _ _ | refine Below.drew ?_ | refine bdrewN ?_ _ | refine Below.setCell ?_ (by first | exact Nat.le_refl _ | (simp; done) | (simp; omega) | omega) _ | refine Below.alloc ?_ (by first | exact Nat.le_refl _ | (simp; done) | (simp; omega) | omega) _)) hbwb; have zwb := hBwb.size; have o0wb : Own wb (w.heap.size) #[.bool m, .int .i64 t, .int .i64 n, .string s, .bool b, .int .i64 c, .int .i64 r0, .int .i64 r1, .int .i64 r2, .int .i64 r3, .slice (some ⟨eb, eo, none⟩) k ec] := Own.keep (by with_reducible (repeat' first | assumption | refine Own.drew ?_ | refine Own.drewN ?_ _ | (refine Own.at ?_; first | rfl | (simp; done)) | refine Own.past ?_ _)) hbwb; have c0 := o0wb.cell; have f0 := o0wb.fro; have l0 := o0wb.lt; have o1wb : Own wb (wr.heap.size) #[.int .i64 x.r, .int .i64 x.k, .int .i64 x.t, .int .i64 x.n, .string x.s, .bool x.b, .int .i64 x.c] := Own.keep (by with_reducible (repeat' first | assumption | refine Own.drew ?_ | refine Own.drewN ?_ _ | (refine Own.at ?_; first | rfl | (simp; done)) | refine Own.past ?_ _)) hbwb; have c1 := o1wb.cell; have f1 := o1wb.fro; have l1 := o1wb.lt; have p0 := (hBwb.cell (p := ⟨eb, eo + i0 * 7, none⟩) hla).trans w0; have p1 := (hBwb.cell (p := ⟨eb, eo + i0 * 7 + 1, none⟩) hla).trans w1))
          go_region_held3 (fun w' => w'.cell? ⟨w.heap.size, 10, none⟩ = some (.slice (some ⟨eb, eo, none⟩) k ec) ∧ w'.cell? ⟨eb, eo + i0 * 7, none⟩ = some (.int .i64 y.r) ∧ w'.cell? ⟨eb, eo + i0 * 7 + 1, none⟩ = some (.int .i64 y.k) ∧ w'.cell? ⟨wr.heap.size, 0, none⟩ = some (.int .i64 x.r) ∧ w'.cell? ⟨wr.heap.size, 1, none⟩ = some (.int .i64 x.k)) ((repeat' apply And.intro) <;> (first | (go_keep; done) | (go_simp; done))) ((go_at_call 101; refine (hB1 _).mono ?_; rintro e wc ⟨rfl, hbwc⟩; have hBwc : Below w.heap.size w wc := bup (by with_reducible (repeat' first | assumption | exact Below.refl _ _ | refine Below.drew ?_ | refine bdrewN ?_ _ | refine Below.setCell ?_ (by first | exact Nat.le_refl _ | (simp; done) | (simp; omega) | omega) _ | refine Below.alloc ?_ (by first | exact Nat.le_refl _ | (simp; done) | (simp; omega) | omega) _)) hbwc; have zwc := hBwc.size; have o0wc : Own wc (w.heap.size) #[.bool m, .int .i64 t, .int .i64 n, .string s, .bool b, .int .i64 c, .int .i64 r0, .int .i64 r1, .int .i64 r2, .int .i64 r3, .slice (some ⟨eb, eo, none⟩) k ec] := Own.keep (by with_reducible (repeat' first | assumption | refine Own.drew ?_ | refine Own.drewN ?_ _ | (refine Own.at ?_; first | rfl | (simp; done)) | refine Own.past ?_ _)) hbwc; have c0 := o0wc.cell; have f0 := o0wc.fro; have l0 := o0wc.lt; have o1wc : Own wc (wr.heap.size) #[.int .i64 x.r, .int .i64 x.k, .int .i64 x.t, .int .i64 x.n, .string x.s, .bool x.b, .int .i64 x.c] := Own.keep (by with_reducible (repeat' first | assumption | refine Own.drew ?_ | refine Own.drewN ?_ _ | (refine Own.at ?_; first | rfl | (simp; done)) | refine Own.past ?_ _)) hbwc; have c1 := o1wc.cell; have f1 := o1wc.fro; have l1 := o1wc.lt; have p0c := (hBwc.cell (p := ⟨eb, eo + i0 * 7, none⟩) hla).trans w0; have p1c := (hBwc.cell (p := ⟨eb, eo + i0 * 7 + 1, none⟩) hla).trans w1))
          go_wp2
          go_ret
          exact ⟨by rw [HR.out]; rfl, by with_reducible (repeat' first | assumption | exact Below.refl _ _ | refine Below.drew ?_ | refine bdrewN ?_ _ | refine Below.setCell ?_ (by first | exact Nat.le_refl _ | (simp; done) | (simp; omega) | omega) _ | refine Below.alloc ?_ (by first | exact Nat.le_refl _ | (simp; done) | (simp; omega) | omega) _)⟩
        · rw [hBe] at hB1
          have HT : Hid (∀ j x, j < i + 1 → es[j]? = some x → entA r0 r1 r2 r3 es j x = true) := (show ∀ j x, j < i + 1 → es[j]? = some x → entA r0 r1 r2 r3 es j x = true from fun j x' hj hx' => by
            by_cases e : j < i
            · exact htk.out j x' e hx'
            · have : j = i := by omega
              subst this
              have := HAi.out.symm.trans hx'
              cases this
              unfold entA
              rw [HI.out, HM.out, show j - 1 = i0 by have := HI1.out; omega, HAy.out]; simp [hBe])
          clear hBe
          go_wp2_with (first | (go_at_call 99; refine (hI1 _).mono ?_; rintro e wa ⟨rfl, hbwa⟩; have hBwa : Below w.heap.size w wa := bup (by with_reducible (repeat' first | assumption | exact Below.refl _ _ | refine Below.drew ?_ | refine bdrewN ?_ _ | refine Below.setCell ?_ (by first | exact Nat.le_refl _ | (simp; done) | (simp; omega) | omega) _ | refine Below.alloc ?_ (by first | exact Nat.le_refl _ | (simp; done) | (simp; omega) | omega) _)) hbwa; have zwa := hBwa.size; have o0wa : Own wa (w.heap.size) #[.bool m, .int .i64 t, .int .i64 n, .string s, .bool b, .int .i64 c, .int .i64 r0, .int .i64 r1, .int .i64 r2, .int .i64 r3, .slice (some ⟨eb, eo, none⟩) k ec] := Own.keep (by with_reducible (repeat' first | assumption | refine Own.drew ?_ | refine Own.drewN ?_ _ | (refine Own.at ?_; first | rfl | (simp; done)) | refine Own.past ?_ _)) hbwa; have c0 := o0wa.cell; have f0 := o0wa.fro; have l0 := o0wa.lt; have o1wa : Own wa (wr.heap.size) #[.int .i64 x.r, .int .i64 x.k, .int .i64 x.t, .int .i64 x.n, .string x.s, .bool x.b, .int .i64 x.c] := Own.keep (by with_reducible (repeat' first | assumption | refine Own.drew ?_ | refine Own.drewN ?_ _ | (refine Own.at ?_; first | rfl | (simp; done)) | refine Own.past ?_ _)) hbwa; have c1 := o1wa.cell; have f1 := o1wa.fro; have l1 := o1wa.lt) | (go_at_call 100; refine (hM1 _).mono ?_; rintro e wb ⟨rfl, hbwb⟩; have hBwb : Below w.heap.size w wb := bup (by with_reducible (repeat' first | assumption | exact Below.refl _ _ | refine Below.drew ?_ | refine bdrewN ?_ _ | refine Below.setCell ?_ (by first | exact Nat.le_refl _ | (simp; done) | (simp; omega) | omega) _ | refine Below.alloc ?_ (by first | exact Nat.le_refl _ | (simp; done) | (simp; omega) | omega) _)) hbwb; have zwb := hBwb.size; have o0wb : Own wb (w.heap.size) #[.bool m, .int .i64 t, .int .i64 n, .string s, .bool b, .int .i64 c, .int .i64 r0, .int .i64 r1, .int .i64 r2, .int .i64 r3, .slice (some ⟨eb, eo, none⟩) k ec] := Own.keep (by with_reducible (repeat' first | assumption | refine Own.drew ?_ | refine Own.drewN ?_ _ | (refine Own.at ?_; first | rfl | (simp; done)) | refine Own.past ?_ _)) hbwb; have c0 := o0wb.cell; have f0 := o0wb.fro; have l0 := o0wb.lt; have o1wb : Own wb (wr.heap.size) #[.int .i64 x.r, .int .i64 x.k, .int .i64 x.t, .int .i64 x.n, .string x.s, .bool x.b, .int .i64 x.c] := Own.keep (by with_reducible (repeat' first | assumption | refine Own.drew ?_ | refine Own.drewN ?_ _ | (refine Own.at ?_; first | rfl | (simp; done)) | refine Own.past ?_ _)) hbwb; have c1 := o1wb.cell; have f1 := o1wb.fro; have l1 := o1wb.lt; have p0 := (hBwb.cell (p := ⟨eb, eo + i0 * 7, none⟩) hla).trans w0; have p1 := (hBwb.cell (p := ⟨eb, eo + i0 * 7 + 1, none⟩) hla).trans w1))
          go_region_held3 (fun w' => w'.cell? ⟨w.heap.size, 10, none⟩ = some (.slice (some ⟨eb, eo, none⟩) k ec) ∧ w'.cell? ⟨eb, eo + i0 * 7, none⟩ = some (.int .i64 y.r) ∧ w'.cell? ⟨eb, eo + i0 * 7 + 1, none⟩ = some (.int .i64 y.k) ∧ w'.cell? ⟨wr.heap.size, 0, none⟩ = some (.int .i64 x.r) ∧ w'.cell? ⟨wr.heap.size, 1, none⟩ = some (.int .i64 x.k)) ((repeat' apply And.intro) <;> (first | (go_keep; done) | (go_simp; done))) ((go_at_call 101; refine (hB1 _).mono ?_; rintro e wc ⟨rfl, hbwc⟩; have hBwc : Below w.heap.size w wc := bup (by with_reducible (repeat' first | assumption | exact Below.refl _ _ | refine Below.drew ?_ | refine bdrewN ?_ _ | refine Below.setCell ?_ (by first | exact Nat.le_refl _ | (simp; done) | (simp; omega) | omega) _ | refine Below.alloc ?_ (by first | exact Nat.le_refl _ | (simp; done) | (simp; omega) | omega) _)) hbwc; have zwc := hBwc.size; have o0wc : Own wc (w.heap.size) #[.bool m, .int .i64 t, .int .i64 n, .string s, .bool b, .int .i64 c, .int .i64 r0, .int .i64 r1, .int .i64 r2, .int .i64 r3, .slice (some ⟨eb, eo, none⟩) k ec] := Own.keep (by with_reducible (repeat' first | assumption | refine Own.drew ?_ | refine Own.drewN ?_ _ | (refine Own.at ?_; first | rfl | (simp; done)) | refine Own.past ?_ _)) hbwc; have c0 := o0wc.cell; have f0 := o0wc.fro; have l0 := o0wc.lt; have o1wc : Own wc (wr.heap.size) #[.int .i64 x.r, .int .i64 x.k, .int .i64 x.t, .int .i64 x.n, .string x.s, .bool x.b, .int .i64 x.c] := Own.keep (by with_reducible (repeat' first | assumption | refine Own.drew ?_ | refine Own.drewN ?_ _ | (refine Own.at ?_; first | rfl | (simp; done)) | refine Own.past ?_ _)) hbwc; have c1 := o1wc.cell; have f1 := o1wc.fro; have l1 := o1wc.lt; have p0c := (hBwc.cell (p := ⟨eb, eo + i0 * 7, none⟩) hla).trans w0; have p1c := (hBwc.cell (p := ⟨eb, eo + i0 * 7 + 1, none⟩) hla).trans w1))
          go_wp2
          exact ⟨⟨i + 1, by go_num, by omega, HT, by with_reducible (repeat' first | assumption | exact Below.refl _ _ | refine Below.drew ?_ | refine bdrewN ?_ _ | refine Below.setCell ?_ (by first | exact Nat.le_refl _ | (simp; done) | (simp; omega) | omega) _ | refine Below.alloc ?_ (by first | exact Nat.le_refl _ | (simp; done) | (simp; omega) | omega) _), by with_reducible (repeat' first | assumption | refine Own.drew ?_ | refine Own.drewN ?_ _ | (refine Own.at ?_; first | rfl | (simp; done)) | refine Own.past ?_ _)⟩, by simp [intOf]; omega⟩
    · have hlt' : ¬ (i : Int) < k := by omega
      have HR : Hid (entsB r0 r1 r2 r3 es = true) := (show _ from (ents_all r0 r1 r2 r3 es).2 (fun j x hj => htk.out j x (by have := (List.getElem?_eq_some_iff.1 hj).1; rw [HL.out] at this; omega) hj))
      go_wp2
      go_ret
      exact ⟨by rw [HR.out]; rfl, by with_reducible (repeat' first | assumption | exact Below.refl _ _ | refine Below.drew ?_ | refine bdrewN ?_ _ | refine Below.setCell ?_ (by first | exact Nat.le_refl _ | (simp; done) | (simp; omega) | omega) _ | refine Below.alloc ?_ (by first | exact Nat.le_refl _ | (simp; done) | (simp; omega) | omega) _)⟩
end Go.Proofs.YtcgcnpcimfaecaaGreatDoor
