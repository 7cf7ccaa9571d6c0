/- The contract of slices.Sort at numbers of 64 bits, over rows of the call's own: the row by size; nothing else is turned. -/
import Derived.Test.YtcgcnpcimfaecaaGreatDoorQGL
import Derived.Sort.OwnSortedInts
namespace Go.Proofs.YtcgcnpcimfaecaaGreatDoor
open Go.RowKit Go.Sort
set_option linter.all false
theorem flat_icell : ∀ (l : List Int), flatC icell l = l.map (Value.int .i64)
  | [] => rfl
  | x :: l => by
    have h := flat_icell l
    unfold flatC at h ⊢
    rw [List.flatMap_cons, h]; rfl
theorem sort_row (W : World) (B : Nat) (p : Option Addr) (m c : Nat) (l : List Int) (h : Row icell 1 2 W B (.slice p m c) l) (h0 : 0 < m) (hm : m ≤ 1099511627776) : Calls Tryz.prog 120 #[.slice p m c] W fun e w' => e = .returned (.tuple #[]) ∧ Hid (NV w' p m (srt l)) ∧ Mut (fun q => (Value.slice p m c).ownBlock = some q) W w' := by
  have hr := h
  unfold Row at hr
  obtain ⟨hlen, hh⟩ := hr
  rcases hh with ⟨e, _⟩ | ⟨g, cap, cur, e, hbase, hb, h1, h2, h3, h4⟩
  · injection e with _ e2 _; omega
  injection e with e1 e2 e3
  subst e1 e3
  subst e2
  rw [flat_icell, Nat.mul_one] at h4
  have hH := holds_of_blockI hb h4
  have hgl : g < W.heap.size := (Array.getElem?_eq_some_iff.1 hb).1
  refine (AnyG.slices_Sort_int Tryz.sortI64 g 0 c l W hH hgl (by omega)).mono ?_
  rintro e w' ⟨rfl, n, os, rfl⟩
  have hs : (l.mergeSort fun x y => decide (x ≤ y)).length = l.length := List.length_mergeSort ..
  have ho := ownsRow_sortedI (n := n) (os := os) hs hbase hb h1 h2 h3
  have hg := grownBy_sortedI (w := W) (g := g) (n := n) (os := os) (l.mergeSort fun x y => decide (x ≤ y)).toArray
  have hrow : Row icell 1 2 (grow (putRow (Value.int .i64) (Sort.ahead W n) g 0 (l.mergeSort fun x y => decide (x ≤ y)).toArray) os) B (.slice (some ⟨g, 0, none⟩) l.length c) (srt l) := by
    unfold Row
    rw [flat_icell, srt_len]
    exact ho
  obtain ⟨p', c', e', _, hnv⟩ := NV.ofRow hrow
  injection e' with e1' e2' _
  rw [← e1', srt_len] at hnv
  exact ⟨rfl, hnv, ⟨hg.os, hg.tape, hg.output, hg.size, fun k hk hn => hg.block k hk (fun e => hn e.symm)⟩⟩
end Go.Proofs.YtcgcnpcimfaecaaGreatDoor
