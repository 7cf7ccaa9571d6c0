/- The library's contract of internal/stringslite.Index, laid at this program with the word o -/
import Derived.Test.YtcmjhjnpcogmgaaGreatDoorUAuto
import Derived.Ground.NamesProg
import Derived.Shelf.LaysM
import Derived.Test.YtcmjhjnpcogmgaaGreatDoorProg
import Derived.Test.YtcmjhjnpcogmgaaGreatDoorUZD
import Derived.Test.YtcmjhjnpcogmgaaGreatDoorCards
import Derived.Test.YtcmjhjnpcogmgaaGreatDoorTie
import Derived.Deep.DeepHandedRow
import Derived.Deep.Slices
import Derived.Lib.LaidTab
import Derived.Lib.CountLaws
import Derived.Lay
import Derived.Stop.LaidErr
import Derived.LaidOnce
import Derived.SevenTiedAt
import Derived.ProofKit
import Derived.OpenShut
import Derived.SizedLaws
import Derived.WideKeyArgs
set_option linter.all false
set_option maxRecDepth 100000
set_option maxHeartbeats 4000000
namespace Go.Proofs
open Go.Shelf
def Tryz.laysM219_ren : Go.Shelf.Ren := ⟨fun | 219 => 187 | 217 => 162 | 225 => 202 | 224 => 201 | 267 => 203 | 266 => 186 | 314 => 210 | n => n, fun | 9 => 9 | 3 => 3 | 4 => 4 | 5 => 5 | 46 => 219 | 146 => 229 | 51 => 228 | n => n, fun | 1 => 1 | n => n⟩
theorem Tryz.laysM219 : Go.Proofs.LaysM.n219 Tryz.prog Tryz.laysM219_ren := {
 mixed := by kernel_rfl
 f217 := Tryz.func162.trans (congrArg some zq14)
 f219 := Tryz.func187.trans (congrArg some zq14)
 f224 := Tryz.func201.trans (congrArg some zq14)
 f225 := Tryz.func202.trans (congrArg some zq14)
 f266 := Tryz.func186.trans (congrArg some zq14)
 f267 := Tryz.func203.trans (congrArg some zq14)
 f314 := Tryz.func210.trans (congrArg some zq14)
 t3 := Tryz.underlying3
 a3 := Tryz.isAgg3
 z3 := Tryz.sizeOf3
 v3 := Tryz.zeroValue3
 t4 := Tryz.underlying4
 a4 := Tryz.isAgg4
 z4 := Tryz.sizeOf4
 v4 := Tryz.zeroValue4
 t5 := Tryz.underlying5
 a5 := Tryz.isAgg5
 z5 := Tryz.sizeOf5
 v5 := Tryz.zeroValue5
 t9 := Tryz.underlying9
 a9 := Tryz.isAgg9
 z9 := Tryz.sizeOf9
 v9 := Tryz.zeroValue9
 t46 := Tryz.underlying219
 a46 := Tryz.isAgg219
 z46 := Tryz.sizeOf219
 v46 := Tryz.zeroValue219
 t51 := Tryz.underlying228
 a51 := Tryz.isAgg228
 z51 := Tryz.sizeOf228
 v51 := Tryz.zeroValue228
 t146 := Tryz.underlying229
 a146 := Tryz.isAgg229
 z146 := Tryz.sizeOf229
 v146 := Tryz.zeroValue229
 g1 := by kernel_rfl
 i3 := by kernel_rfl
 i4 := by kernel_rfl
 i5 := by kernel_rfl
 i9 := by kernel_rfl
 i46 := by kernel_rfl
 i51 := by kernel_rfl
 i146 := by kernel_rfl
 m1 := by kernel_rfl
 s1_3 := fun w h => Go.Proofs.cell_of_shapedOpen_int (zero := #[.int .i64 0]) (t := 3) h (of_decide_eq_true zq14) zq14 rfl zq14 zq14 Tryz.underlying3 }
end Go.Proofs
namespace Go.Proofs.YtcmjhjnpcogmgaaGreatDoor
open Go.RowKit Go.ChangeShapes Go.WideShapes Go.ChangeAt
theorem cellsFun : Tryz.prog.cellsOf 46 = 4 := by kernel_rfl
theorem cellsS : Tryz.prog.cellsOf 9 = 1 := by kernel_rfl
theorem cellsN : Tryz.prog.cellsOf 3 = 1 := by kernel_rfl
theorem list4z {α : Type} {l : List α} (h : l.length = 4) : ∃ c0 c1 c2 c3, l = [c0, c1, c2, c3] := by
 match l, h with
 | [c0, c1, c2, c3], _ => exact ⟨c0, c1, c2, c3, rfl⟩
def datF {H : Type} (x : Fu) : DataW H := .agg [.lit (.string x.name.data.toList), .lit (.int .i64 x.least), .lit (.int .i64 x.most), .lit (.string x.kinds.data.toList)]
section
variable {H : Type} {enc : TypeId × Value → H} {w : World} {base : Nat} {spare : Nat → Bool} {held : Bool} {r : Reach} {b0 : Nat}
theorem trod_fun {n : Nat} {cs : List Value} {y : DataW H × List MemPlace} (hl4 : cs.length = 4) (h : DataW.trod enc Tryz.prog w base spare held n 46 cs = some y) :
  ∃ x : Fu, cs = x.cells.toList ∧ x.kinds.size ≤ maxLen ∧ x.name.size ≤ maxLen ∧ y.1 = datF x ∧ (Lit.int .i64 x.least).wf = true ∧ (Lit.int .i64 x.most).wf = true := by
 obtain ⟨c0, c1, c2, c3, rfl⟩ := list4z hl4
 obtain ⟨xs, nf, _, hx, hl, hlen, hf⟩ := DataW.trod_struct Tryz.underlying46 h
 obtain ⟨y0, y1, y2, y3, rfl⟩ := list4z (show xs.length = 4 by simpa using hlen)
 have g0 : DataW.trod enc Tryz.prog w base spare held nf 9 [c0] = some y0 := by
  have q := hf 0 _ rfl
  simpa [cellsS] using q
 have g1 : DataW.trod enc Tryz.prog w base spare held nf 3 [c1] = some y1 := by
  have q := hf 1 _ rfl
  simpa [cellsN, cellsS] using q
 have g2 : DataW.trod enc Tryz.prog w base spare held nf 3 [c2] = some y2 := by
  have q := hf 2 _ rfl
  simpa [cellsN, cellsS] using q
 have g3 : DataW.trod enc Tryz.prog w base spare held nf 9 [c3] = some y3 := by
  have q := hf 3 _ rfl
  simpa [cellsN, cellsS] using q
 obtain ⟨s0, e0, z0, m0⟩ := DataW.trod_string Tryz.underlying9 g0
 obtain ⟨i1, e1, z1, w1⟩ := DataW.trod_int Tryz.underlying3 g1
 obtain ⟨i2, e2, z2, w2⟩ := DataW.trod_int Tryz.underlying3 g2
 obtain ⟨s3, e3, z3, m3⟩ := DataW.trod_string Tryz.underlying9 g3
 simp only [List.cons.injEq, and_true] at e0 e1 e2 e3
 subst e0 e1 e2 e3
 refine ⟨⟨s0, i1, i2, s3⟩, rfl, m3, m0, ?_, w1, w2⟩
 rw [hx]
 simp [z0, z1, z2, z3, datF]
theorem open_funs {v : Value} {d : DataW H} {p : List MemPlace} (hv : Value.okWide Tryz.prog w r b0 22 v) (h : DataW.Trod enc Tryz.prog w base spare held 22 v d p) :
  ∃ (fp : Option Addr) (fn fc : Nat) (fl : List Fu), v = .slice fp fn fc ∧ FV w v fl ∧ (fl = [] ∨ ∃ sp, d = .slice (fl.map datF) sp) := by
 obtain ⟨fp, fn, fc, rfl⟩ := okWide_slice Tryz.underlying22 hv
 obtain ⟨fuel, hf⟩ := h
 have g : DataW.trod enc Tryz.prog w base spare held fuel 22 [.slice fp fn fc] = some (d, p) := hf
 rcases Go.Deep.open_slice Tryz.underlying22 g with ⟨h1, _⟩ | ⟨a, len, cap, m, n, D, Pl, h1, hb, hlc, hcm, hm, h2, hel⟩
 ·simp only [List.cons.injEq, Value.slice.injEq, and_true] at h1
  obtain ⟨rfl, rfl, rfl⟩ := h1
  exact ⟨none, 0, 0, [], rfl, ⟨none, 0, rfl, Nat.le_refl _, fun h => absurd h (by simp)⟩, .inl rfl⟩
 ·simp only [List.cons.injEq, Value.slice.injEq, and_true] at h1
  obtain ⟨rfl, rfl, rfl⟩ := h1
  have hlm : fn ≤ m := by rw [hm]; split <;> omega
  have each : ∀ i, i < fn → ∃ x : Fu, D i = datF x ∧ ∀ j, j < 4 → w.cell? ((a.add (i * 4)).add j) = (Fu.cells x)[j]? := fun i hi => by
   obtain ⟨cs', hc, ht⟩ := hel i zq17
   rw [cellsFun] at hc
   obtain ⟨_, hl4, hcell⟩ := World.cells?_some hc
   obtain ⟨x, rfl, _, _, hw, _⟩ := trod_fun (by simpa using hl4) ht
   exact ⟨x, hw, fun j hj => by rw [hcell j hj]; simp⟩
  have ha : 0 < fn → a = ⟨a.block, a.off, none⟩ := fun h0 => by
   obtain ⟨x, _, hc⟩ := each 0 h0
   have h3 := hc 0 zq16
   rw [show (a.add (0 * 4)).add 0 = a by simp [Addr.add]] at h3
   have hs := World.cell?_spot h3
   obtain ⟨b, o, s⟩ := a
   simp only at hs
   rw [hs]
  classical
  have hex : ∀ i : Nat, ∃ x : Fu, i < fn → (D i = datF x ∧ ∀ j, j < 4 → w.cell? ((a.add (i * 4)).add j) = (Fu.cells x)[j]?) := fun i => by
   by_cases hi : i < fn
   ·obtain ⟨x, hx⟩ := each i hi
    exact ⟨x, fun _ => hx⟩
   ·exact ⟨⟨⟨#[]⟩, 0, 0, ⟨#[]⟩⟩, fun h => absurd h hi⟩
  let f : Nat → Fu := fun i => Classical.choose (hex i)
  have hf2 : ∀ i, i < fn → (D i = datF (f i) ∧ ∀ j, j < 4 → w.cell? ((a.add (i * 4)).add j) = (Fu.cells (f i))[j]?) := fun i => Classical.choose_spec (hex i)
  have hnl : ((List.range fn).map f).length = fn := by simp
  refine ⟨some a, fn, fc, (List.range fn).map f, rfl, ⟨some a, fc, by rw [hnl], by rw [hnl]; exact hlc, fun h0 => ?_⟩, .inr ⟨(List.range (m - fn)).map (fun j => D (fn + j)), ?_⟩⟩
  ·rw [hnl] at h0
   refine ⟨a.block, a.off, congrArg some (ha h0), ?_, fun i x hi j hj => ?_⟩
   ·obtain ⟨_, hc⟩ := hf2 0 h0
    have h3 := hc 0 zq16
    have h4 := World.block_lt_of_cell? w _ h3
    simpa [Addr.add] using h4
   ·have hil : i < fn := by have := (List.getElem?_eq_some_iff.1 hi).1; rwa [hnl] at this
    have e : x = f i := by
     rw [List.getElem?_map, List.getElem?_range hil] at hi
     simpa using hi.symm
    rw [e, ← (hf2 i hil).2 j hj]
    congr 1
    rw [Go.Deep.add_add, ha h0]
    simp [Addr.add, Nat.add_assoc]
  ·have e : (List.range fn).map D = ((List.range fn).map f).map datF := by
    rw [List.map_map]
    apply List.map_congr_left
    intro i hi
    exact (hf2 i (by simpa using hi)).1
   have h2' := congrArg Prod.fst h2
   simp only at h2'
   rw [h2', e]
end
def tables : List (String × DataW Unit) := [("unicode/utf8.acceptRanges", Rows.laid_unicode_utf8_acceptRanges), ("oriel/ops.signs", Rows.laid_oriel_ops_signs), ("oriel/value.names", Rows.laid_oriel_value_names), ("unicode/utf8.first", Rows.laid_unicode_utf8_first)]
theorem nam_of_laid {W : World} (h : laidMetH Tryz.prog tables W) : Vv.Nam W := by
 rw [MakeChecks.laidMetH_plain _ _ _ zq14] at h
 exact Vv.nam_of_head (laidMet.tail (laidMet.tail h))
theorem cellsSgn : Tryz.prog.cellsOf 190 = 11 := by kernel_rfl
theorem gSgnType : Tryz.prog.globals[0]?.map (·.type) = some 190 := by kernel_rfl
theorem sgn_of_laid {W : World} (h : laidMetH Tryz.prog tables W) : Sgn W := by
 rw [MakeChecks.laidMetH_plain _ _ _ zq14] at h
 obtain ⟨ps, ⟨g', t', cs, fuel, p, q, hg', ht', hvar, hd, _, _⟩, _⟩ := laidMet.tail h
 obtain rfl := Option.some.inj (gSgn.symm.trans hg')
 obtain rfl := Option.some.inj (gSgnType.symm.trans ht')
 unfold Sgn
 rw [hvar, ← Vv.cells_of_strs Tryz.underlying190 Tryz.underlying9 cellsS cellsSgn (zs := signsL) hd]
theorem mx_of_shaped {W : World} (h : W.ShapedOpen Tryz.prog) : Mx W := Tryz.laysM219.s1_3 W h
theorem bulk_str {H : Type} {x : ByteArray} {l : List (DataW H)} (h : Rows.uptoBulkAll (DataW.lit (.string x.data.toList) :: l) ≤ 1048576) : x.size + 1 ≤ 1048576 := by
 simp only [Rows.uptoBulkAll, Rows.uptoBulk] at h
 rw [size_len]; omega
theorem bulk_funs {H : Type} {fl : List Fu} {d : DataW H} {l m : List (DataW H)} (h : Rows.uptoBulkAll (l ++ d :: m) ≤ 1048576) (hd : fl = [] ∨ ∃ sp, d = .slice (fl.map datF) sp) : fl.length ≤ 1048576 ∧ ∀ x ∈ fl, x.kinds.size ≤ 1048576 ∧ x.name.size ≤ 1048576 := by
 have happ : ∀ a b : List (DataW H), Rows.uptoBulkAll (a ++ b) = Rows.uptoBulkAll a + Rows.uptoBulkAll b := by
  intro a b
  induction a with
  | nil => simp [Rows.uptoBulkAll]
  | cons x r ih => simp only [List.cons_append, Rows.uptoBulkAll, ih]; omega
 have hone : ∀ x : Fu, Rows.uptoBulk (datF x : DataW H) = x.name.size + x.kinds.size + 5 := by
  intro x
  simp only [datF, Rows.uptoBulk, Rows.uptoBulkAll, size_len]
  omega
 have hall : ∀ fl : List Fu, fl.length ≤ Rows.uptoBulkAll (fl.map datF : List (DataW H)) ∧ ∀ x ∈ fl, x.kinds.size ≤ Rows.uptoBulkAll (fl.map datF : List (DataW H)) ∧ x.name.size ≤ Rows.uptoBulkAll (fl.map datF : List (DataW H)) := by
  intro fl
  induction fl with
  | nil => simp
  | cons x r ih =>
   simp only [List.map_cons, Rows.uptoBulkAll, hone, List.length_cons]
   refine ⟨zq17, fun y hy => ?_⟩
   rcases List.mem_cons.1 hy with rfl | hy
   ·omega
   ·have := ih.2 y hy; omega
 rcases hd with rfl | ⟨sp, rfl⟩
 ·simp
 ·rw [happ] at h
  simp only [Rows.uptoBulkAll, Rows.uptoBulk] at h
  obtain ⟨h1, h2⟩ := hall fl
  exact ⟨zq17, fun x hx => by have := h2 x hx; omega⟩
theorem laidOutZ : laidOutB Tryz.prog = true := by kernel_rfl
theorem rowFuns : 22 < Tryz.prog.types.size := of_decide_eq_true zq14
theorem replaceK_len (old new : List UInt8) : ∀ (k : Nat) (s : List UInt8), (Lib.replaceK old new k s).length ≤ s.length + k * new.length
 | 0, s => by simp [Lib.replaceK]
 | k + 1, s => by
  unfold Lib.replaceK
  split
  ·omega
  ·have ih := replaceK_len old new k (s.drop ((Lib.index s old).toNat + old.length))
   simp only [List.length_append, List.length_take, List.length_drop] at ih ⊢
   have e : (k + 1) * new.length = k * new.length + new.length := Nat.succ_mul _ _
   omega
theorem rdQ_str (l : List UInt8) : (rdQ l).str.size ≤ 2 * l.length + 1 := by
 unfold rdQ
 split
 ·show (bs _).size ≤ _
  rw [bs_size]
  unfold Lib.replaceAll Lib.replace
  have hc : Lib.replaceNum ((l.drop 1).take (l.length - 2)) [34, 34] (-1) ≤ l.length + 1 := by
   unfold Lib.replaceNum
   rw [if_pos (Or.inl zq16)]
   have := Lib.count_le ((l.drop 1).take (l.length - 2)) [34, 34]
   simp only [List.length_take, List.length_drop] at this
   omega
  rw [if_neg zq16]
  have := replaceK_len [34, 34] [34] (Lib.replaceNum ((l.drop 1).take (l.length - 2)) [34, 34] (-1)) ((l.drop 1).take (l.length - 2))
  simp only [List.length_take, List.length_drop, List.length_singleton, Nat.mul_one] at this
  omega
 ·show (0 : Nat) ≤ _; omega
theorem rdT_str (s : ByteArray) : (rdT s).str.size ≤ 2 * s.size + 1 := by
 have h0 : ∀ k, (tk0 k).str.size ≤ 2 * s.size + 1 := fun k => by show (0 : Nat) ≤ _; omega
 unfold rdT
 split
 ·exact h0 _
 split
 ·unfold rdNum; split <;> (show (0 : Nat) ≤ _; omega)
 split
 ·have := rdQ_str s.data.toList; rwa [← size_len] at this
 split
 ·unfold rdF; split <;> (show (0 : Nat) ≤ _; omega)
 split
 ·unfold rdW rdRect rdCell
  (repeat' split) <;> first | (show (0 : Nat) ≤ _; omega) | (show s.size ≤ _; omega)
 split
 ·show s.size ≤ _; omega
 ·exact h0 _
theorem cutW_sub : ∀ (l : List Tk) (t : Tk), t ∈ cutW l → t ∈ l
 | [], t, h => by cases h
 | u :: r, t, h => by
  rw [cutW, List.mem_cons] at h
  rcases h with rfl | h
  ·simp
  ·split at h
   ·cases h
   ·exact List.mem_cons_of_mem _ (cutW_sub r t h)
theorem cutZ_len : ∀ (l : List Tk), (cutW l).length ≤ l.length
 | [] => Nat.le_refl _
 | u :: r => by
  have := cutZ_len r
  rw [cutW, List.length_cons, List.length_cons]
  split
  ·simp
  ·omega
theorem pcs_num : ∀ (f : Nat) (rest : List UInt8) (n : Nat), (pcs f rest n).length ≤ f
 | 0, _, _ => by simp [pcs]
 | f + 1, rest, n => by
  rw [pcs_succ, List.length_cons]
  split
  ·simp
  ·have := pcs_num f ((dropB rest).drop (reachL (dropB rest))) n; omega
theorem toks_len (s : ByteArray) : (toks s).length ≤ s.size + 1 := by
 unfold toks
 split
 ·have h1 := cutZ_len ((pcsOf s).map tkAt)
  have h2 := pcs_num s.size (s.data.toList.drop 1) s.size
  rw [List.length_map] at h1
  unfold pcsOf at h1 ⊢
  omega
 ·simp
theorem toks_str (s : ByteArray) : ∀ t ∈ toks s, t.str.size ≤ 2 * s.size + 1 := by
 intro t ht
 unfold toks at ht
 split at ht
 ·obtain ⟨x, hx, rfl⟩ := List.mem_map.1 (cutW_sub _ _ ht)
  have h1 := pcs_len _ _ _ x hx
  rw [List.length_drop, ← size_len] at h1
  have h2 := rdT_str (bs x.2)
  rw [bs_size] at h2
  show (rdT (bs x.2)).str.size ≤ _
  omega
 ·simp at ht; subst ht; show (0 : Nat) ≤ _; omega
end Go.Proofs.YtcmjhjnpcogmgaaGreatDoor
