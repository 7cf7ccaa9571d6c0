/- The contract of aggs.wholes: the arguments that are whole numbers, from the left, or the first code that comes of it. New memory alone is made. The contract of aggs.numbersOf: the numbers among the items. New memory alone is made. -/
import Derived.Test.YtcgcnpcimfaecaaGreatDoorQGTr
import Derived.Test.YtcgcnpcimfaecaaGreatDoorQGW
import Derived.Test.YtcgcnpcimfaecaaGreatDoorQGJ
namespace Go.Proofs.YtcgcnpcimfaecaaGreatDoor
open Go.RowKit
set_option linter.all false
def icell (x : Int) : Array Value := #[.int .i64 x]
theorem icell_size (x : Int) : (icell x).size = 1 := rfl
theorem icell_one (s : Int) : ∀ u ∈ (icell s).toList, u.oneCell' = true := by intro u hu; simp [icell] at hu; subst hu; rfl
/-- The arguments that are whole numbers. -/
def nIx (p : ByteArray) (l : List Ag) : List Ag := (l.zipIdx.filter (fun q => kdB p q.2 == 110)).map (·.1)
def firstN : List Ag → Int
  | [] => 0
  | a :: l => if cdN a = 0 then firstN l else cdN a
theorem firstN_app : ∀ {l m : List Ag}, (∀ a ∈ l, cdN a = 0) → firstN (l ++ m) = firstN m
  | [], _, _ => rfl
  | a :: l, m, h => by
    show (if cdN a = 0 then firstN (l ++ m) else cdN a) = _
    rw [if_pos (h a (List.mem_cons_self ..)), firstN_app (fun x hx => h x (List.mem_cons_of_mem _ hx))]
theorem nIx_app (p : ByteArray) (l m : List Ag) : ∃ m', nIx p (l ++ m) = nIx p l ++ m' ∧ ∀ x r, m = x :: r → kdB p l.length = 110 → ∃ r', m' = x :: r' := by
  unfold nIx
  rw [List.zipIdx_append, List.filter_append, List.map_append]
  refine ⟨_, rfl, ?_⟩
  rintro x r rfl hk
  rw [List.zipIdx_cons, List.filter_cons_of_pos (by simp [hk])]
  exact ⟨_, rfl⟩
theorem nIx_snoc {p : ByteArray} {l : List Ag} {i : Nat} {x : Ag} (h : l[i]? = some x) : nIx p (l.take (i + 1)) = nIx p (l.take i) ++ (if kdB p i == 110 then [x] else []) := by
  have hi := (List.getElem?_eq_some_iff.1 h).1
  unfold nIx
  rw [List.take_succ, h, Option.toList_some, List.zipIdx_append, List.filter_append, List.map_append]
  congr 1
  rw [List.length_take, Nat.min_eq_left (by omega), Nat.zero_add]
  simp only [List.zipIdx_cons, List.zipIdx_nil, List.filter_cons, List.filter_nil]
  split <;> rfl
theorem firstN_atK {p : ByteArray} {l : List Ag} {i : Nat} {x : Ag} (h : l[i]? = some x) (hk : kdB p i = 110) (h1 : ∀ a ∈ nIx p (l.take i), cdN a = 0) (h2 : ¬ cdN x = 0) : firstN (nIx p l) = cdN x := by
  obtain ⟨hi, e⟩ := List.getElem?_eq_some_iff.1 h
  have e2 : l = l.take i ++ x :: l.drop (i + 1) := by
    rw [← e, List.getElem_cons_drop, List.take_append_drop]
  obtain ⟨m', hm, hx⟩ := nIx_app p (l.take i) (x :: l.drop (i + 1))
  obtain ⟨r', rfl⟩ := hx x _ rfl (by rw [List.length_take, Nat.min_eq_left (by omega)]; exact hk)
  rw [← e2] at hm
  rw [hm, firstN_app h1]
  exact if_neg h2
theorem firstN_allK {p : ByteArray} {l : List Ag} {i : Nat} (h : l.length ≤ i) (h1 : ∀ a ∈ nIx p (l.take i), cdN a = 0) : firstN (nIx p l) = 0 := by
  rw [List.take_of_length_le h] at h1
  have := firstN_app (m := []) h1
  rwa [List.append_nil] at this
theorem nIx_len (p : ByteArray) (l : List Ag) : (nIx p l).length ≤ l.length := by
  unfold nIx
  rw [List.length_map]
  exact Nat.le_trans (List.length_filter_le ..) (by rw [List.length_zipIdx]; exact Nat.le_refl _)
set_option maxRecDepth 100000 in
set_option maxHeartbeats 4000000 in
theorem wholes_y (w : World) (b o c n : Nat) (l : List Ag) (hla : b < w.heap.size) (HA : ∀ i x, l[i]? = some x → ∀ j, j < 11 → w.cell? ⟨b, o + i * 11 + j, none⟩ = (Ag.cells x)[j]?) (hn : l.length = n) (hc : n ≤ c) (h0 : 0 < n) (hl : n ≤ 9223372036854775807) (hN : Hid (Nums l)) (h16 : n ≤ 16) (p : ByteArray) (mo : Int) (st : Bool) (fp : Fn) (fc fl : Array Value) (hp : 0 < p.size) (hp2 : p.size ≤ 16) :
    Calls Tryz.prog 29 #[.agg #[.string p, .int .i64 mo, .bool st, .func fp fc fl], .slice (some ⟨b, o, none⟩) n c] w fun e w' => ((firstN (nIx p l) = 0 ∧ ∃ u, e = .returned (.tuple #[u, .int .i64 0]) ∧ Row icell 1 2 w' (w.heap.size + 1) u ((nIx p l).map aI)) ∨ (¬ firstN (nIx p l) = 0 ∧ e = .returned (.tuple #[.slice none 0 0, .int .i64 (firstN (nIx p l))]))) ∧ Below w.heap.size w w' := by
  obtain ⟨i0, hi, hz0, hz1, hz2⟩ := info_parts infoI64
  have HI : Hid _ := hi
  have HZ0 : Hid _ := hz0
  have HZ1 : Hid _ := hz1
  have HZ2 : Hid _ := hz2
  clear hi hz0 hz1 hz2
  have mixed : Tryz.prog.follows .mixedOrders = true := by kernel_rfl
  have HA' : Hid _ := HA
  have HL : Hid (l.length = n) := hn
  clear HA hn
  go_enter Tryz.func29, Tryz.ntmps29
  go_wp2
  obtain ⟨wg, hwg⟩ : ∃ wg, w.alloc (.cells #[.string p, .int .i64 mo, .bool st, .func fp fc fl] 55) = wg := ⟨_, rfl⟩
  have hBg : Below w.heap.size w wg := by rw [← hwg]; exact bal _ _
  have og : Own wg w.heap.size #[.string p, .int .i64 mo, .bool st, .func fp fc fl] := by rw [← hwg]; exact Own.new _ _ _
  have hsz : wg.heap.size = w.heap.size + 1 := by rw [← hwg]; simp
  have HSZ : Hid _ := hsz
  rw [hwg]
  have zg := hBg.size
  clear hwg hsz
  go_loopw [6, 13] (fun u j w' => ∃ i : Nat, j = .int .i64 i ∧ i ≤ n ∧ Hid (∀ a ∈ nIx p (l.take i), cdN a = 0) ∧ Hid (Row icell 1 2 w' wg.heap.size u ((nIx p (l.take i)).map aI)) ∧ Below wg.heap.size wg w') (fun _ j _ => n - (intOf j).toNat)
  case atStart => exact ⟨0, rfl, by omega, (show Hid _ from fun a ha => by simp [nIx] at ha), Row.nil _ _, Below.refl _ _⟩
  case round =>
    obtain ⟨i, rfl, hii, htk, HR, hB3⟩ := hrel
    have z3 := hB3.size
    have hBwr : Below w.heap.size w wr := bup hBg hB3
    obtain ⟨m, hm⟩ : ∃ m, ((nIx p (l.take i)).map aI).length = m := ⟨_, rfl⟩
    have hm16 : m ≤ i := by rw [← hm, List.length_map]; exact Nat.le_trans (nIx_len p _) (by rw [List.length_take]; omega)
    have HL2 : Hid _ := hm
    obtain ⟨up, uc, hu, huc, _⟩ := Row.slice HR.out
    rw [hm] at hu
    clear huc hm
    subst hu
    have orr := og.keep hB3
    have c0 := orr.cell
    have f0 := orr.fro
    have l0 := orr.lt
    by_cases hlt : i < n
    · have hlt' : (i : Int) < n := by omega
      have hai : l[i]? = some (l[i]'(by rw [HL.out]; exact hlt)) := List.getElem?_eq_getElem _
      have ca' := fun j hj => (show w.cell? ⟨b, o + i * 11 + j, none⟩ = _ from HA'.out i _ hai j hj)
      have hin : I64 (l[i]'(by rw [HL.out]; exact hlt)).n := hN.out _ (List.getElem_mem _)
      have HAi : Hid _ := hai
      revert ca' HAi hin
      generalize (l[i]'(by rw [HL.out]; exact hlt)) = x
      intro ca' hin HAi
      clear hai
      have y0 : w.cell? ⟨b, o + i * 11, none⟩ = some (.bool x.many) := ca' 0 (by decide)
      have y1 : w.cell? ⟨b, o + i * 11 + 1, none⟩ = some (.int .i64 x.t) := ca' 1 (by decide)
      have y2 : w.cell? ⟨b, o + i * 11 + 2, none⟩ = some (.int .i64 x.n) := ca' 2 (by decide)
      have y3 : w.cell? ⟨b, o + i * 11 + 3, none⟩ = some (.string x.s) := ca' 3 (by decide)
      have y4 : w.cell? ⟨b, o + i * 11 + 4, none⟩ = some (.bool x.b) := ca' 4 (by decide)
      have y5 : w.cell? ⟨b, o + i * 11 + 5, none⟩ = some (.int .i64 x.c) := ca' 5 (by decide)
      have y6 : w.cell? ⟨b, o + i * 11 + 6, none⟩ = some (.int .i64 x.r0) := ca' 6 (by decide)
      have y7 : w.cell? ⟨b, o + i * 11 + 7, none⟩ = some (.int .i64 x.r1) := ca' 7 (by decide)
      have y8 : w.cell? ⟨b, o + i * 11 + 8, none⟩ = some (.int .i64 x.r2) := ca' 8 (by decide)
      have y9 : w.cell? ⟨b, o + i * 11 + 9, none⟩ = some (.int .i64 x.r3) := ca' 9 (by decide)
      have y10 : w.cell? ⟨b, o + i * 11 + 10, none⟩ = some (.slice x.ep x.en x.ec) := ca' 10 (by decide)
      clear ca'
      have x0 := (hBwr.cell (p := ⟨b, o + i * 11, none⟩) hla).trans y0
      have x1 := (hBwr.cell (p := ⟨b, o + i * 11 + 1, none⟩) hla).trans y1
      have x2 := (hBwr.cell (p := ⟨b, o + i * 11 + 2, none⟩) hla).trans y2
      have x3 := (hBwr.cell (p := ⟨b, o + i * 11 + 3, none⟩) hla).trans y3
      have x4 := (hBwr.cell (p := ⟨b, o + i * 11 + 4, none⟩) hla).trans y4
      have x5 := (hBwr.cell (p := ⟨b, o + i * 11 + 5, none⟩) hla).trans y5
      have x6 := (hBwr.cell (p := ⟨b, o + i * 11 + 6, none⟩) hla).trans y6
      have x7 := (hBwr.cell (p := ⟨b, o + i * 11 + 7, none⟩) hla).trans y7
      have x8 := (hBwr.cell (p := ⟨b, o + i * 11 + 8, none⟩) hla).trans y8
      have x9 := (hBwr.cell (p := ⟨b, o + i * 11 + 9, none⟩) hla).trans y9
      have x10 := (hBwr.cell (p := ⟨b, o + i * 11 + 10, none⟩) hla).trans y10
      clear y0 y1 y2 y3 y4 y5 y6 y7 y8 y9 y10
      have hK := fun W => kind_any p mo st fp fc fl i W hp hp2 (by omega)
      have hsn := nIx_snoc (p := p) HAi.out
      cases hk : (kdB p i == 110)
      · rw [hk] at hsn
        have hk2 : (((kdB p i).toNat : Int) != 110) = true := by rw [u8n _ 110 110 rfl]; unfold bne; rw [hk]; rfl
        simp only [Bool.false_eq_true, if_false, List.append_nil] at hsn
        have HSN : Hid _ := hsn
        clear hsn hk
        generalize (kdB p i).toNat = kd at *
        go_wp2_with (go_at_call 54; refine (hK _).mono ?_; rintro e wk ⟨rfl, hbwk⟩; have hBwk : Below w.heap.size w wk := bup (by with_reducible (repeat' first | assumption | exact Below.refl _ _ | refine Below.drew ?_ | refine bdrewN ?_ _ | refine Below.setCell ?_ (by first | exact Nat.le_refl _ | (simp; done) | (simp; omega) | omega) _ | refine Below.alloc ?_ (by first | exact Nat.le_refl _ | (simp; done) | (simp; omega) | omega) _)) hbwk; have zwk := hBwk.size; have o0wk : Own wk (w.heap.size) #[.string p, .int .i64 mo, .bool st, .func fp fc fl] := Own.keep (by with_reducible (repeat' first | assumption | refine Own.drew ?_ | refine Own.drewN ?_ _ | (refine Own.at ?_; first | rfl | (simp; done)) | refine Own.past ?_ _)) hbwk; have c0 := o0wk.cell; have f0 := o0wk.fro; have l0 := o0wk.lt; have o1wk : Own wk (wr.heap.size) #[.bool x.many, .int .i64 x.t, .int .i64 x.n, .string x.s, .bool x.b, .int .i64 x.c, .int .i64 x.r0, .int .i64 x.r1, .int .i64 x.r2, .int .i64 x.r3, .slice x.ep x.en x.ec] := Own.keep (by with_reducible (repeat' first | assumption | refine Own.drew ?_ | refine Own.drewN ?_ _ | (refine Own.at ?_; first | rfl | (simp; done)) | refine Own.past ?_ _)) hbwk; have c1 := o1wk.cell; have f1 := o1wk.fro; have l1 := o1wk.lt; have HRk : Hid _ := Row.keep (HR.out) (show Below wr.heap.size wr wk from bup (bal _ _) hbwk))
        exact ⟨⟨i + 1, by go_num, by omega, (show Hid _ from by rw [HSN.out]; exact htk.out), (show Hid _ from by rw [HSN.out]; exact HRk.out), bup hB3 (show Below wr.heap.size wr wk from bup (bal _ _) hbwk)⟩, by simp [intOf]; omega⟩
      · rw [hk] at hsn
        have hkk : kdB p i = 110 := by simpa using hk
        have hk2 : (((kdB p i).toNat : Int) != 110) = false := by rw [u8n _ 110 110 rfl]; unfold bne; rw [hk]; rfl
        simp only [if_true] at hsn
        have HSN : Hid _ := hsn
        have HKK : Hid _ := hkk
        clear hsn hk hkk
        generalize (kdB p i).toNat = kd at *
        by_cases hcd : cdN x = 0
        · have HC : Hid (cdN x = 0) := hcd
          have hgw : gwN x = aI x := by unfold gwN; rw [if_pos hcd]
          clear hcd
          go_wp2_with (first | (go_at_call 54; refine (hK _).mono ?_; rintro e wk ⟨rfl, hbwk⟩; have hBwk : Below w.heap.size w wk := bup (by with_reducible (repeat' first | assumption | exact Below.refl _ _ | refine Below.drew ?_ | refine bdrewN ?_ _ | refine Below.setCell ?_ (by first | exact Nat.le_refl _ | (simp; done) | (simp; omega) | omega) _ | refine Below.alloc ?_ (by first | exact Nat.le_refl _ | (simp; done) | (simp; omega) | omega) _)) hbwk; have zwk := hBwk.size; have o0wk : Own wk (w.heap.size) #[.string p, .int .i64 mo, .bool st, .func fp fc fl] := Own.keep (by with_reducible (repeat' first | assumption | refine Own.drew ?_ | refine Own.drewN ?_ _ | (refine Own.at ?_; first | rfl | (simp; done)) | refine Own.past ?_ _)) hbwk; have c0 := o0wk.cell; have f0 := o0wk.fro; have l0 := o0wk.lt; have o1wk : Own wk (wr.heap.size) #[.bool x.many, .int .i64 x.t, .int .i64 x.n, .string x.s, .bool x.b, .int .i64 x.c, .int .i64 x.r0, .int .i64 x.r1, .int .i64 x.r2, .int .i64 x.r3, .slice x.ep x.en x.ec] := Own.keep (by with_reducible (repeat' first | assumption | refine Own.drew ?_ | refine Own.drewN ?_ _ | (refine Own.at ?_; first | rfl | (simp; done)) | refine Own.past ?_ _)) hbwk; have c1 := o1wk.cell; have f1 := o1wk.fro; have l1 := o1wk.lt; have HRk : Hid _ := Row.keep (HR.out) (show Below wr.heap.size wr wk from bup (bal _ _) hbwk)) | (go_at_call 60; refine (gw_any _ x hin).mono ?_; rintro e wn ⟨rfl, hbwn⟩; have hBwn : Below w.heap.size w wn := bup (by with_reducible (repeat' first | assumption | exact Below.refl _ _ | refine Below.drew ?_ | refine bdrewN ?_ _ | refine Below.setCell ?_ (by first | exact Nat.le_refl _ | (simp; done) | (simp; omega) | omega) _ | refine Below.alloc ?_ (by first | exact Nat.le_refl _ | (simp; done) | (simp; omega) | omega) _)) hbwn; have zwn := hBwn.size; have o0wn : Own wn (w.heap.size) #[.string p, .int .i64 mo, .bool st, .func fp fc fl] := Own.keep (by with_reducible (repeat' first | assumption | refine Own.drew ?_ | refine Own.drewN ?_ _ | (refine Own.at ?_; first | rfl | (simp; done)) | refine Own.past ?_ _)) hbwn; have c0 := o0wn.cell; have f0 := o0wn.fro; have l0 := o0wn.lt; have o1wn : Own wn (wr.heap.size) #[.bool x.many, .int .i64 x.t, .int .i64 x.n, .string x.s, .bool x.b, .int .i64 x.c, .int .i64 x.r0, .int .i64 x.r1, .int .i64 x.r2, .int .i64 x.r3, .slice x.ep x.en x.ec] := Own.keep (by with_reducible (repeat' first | assumption | refine Own.drew ?_ | refine Own.drewN ?_ _ | (refine Own.at ?_; first | rfl | (simp; done)) | refine Own.past ?_ _)) hbwn; have c1 := o1wn.cell; have f1 := o1wn.fro; have l1 := o1wn.lt; rw [HC.out, hgw]; have hBn : Below wg.heap.size wg wn := bup hB3 (show Below wr.heap.size wr wn from bup (bup (bal _ _) hbwk) hbwn); have HRn : Hid _ := Row.keep HRk.out hbwn; have HOn : Hid (wn.ownsRow wg.heap.size 2 1 (.slice up m uc) m (flatC icell ((nIx p (l.take i)).map aI))) := (show wn.ownsRow wg.heap.size 2 1 (.slice up m uc) m (flatC icell ((nIx p (l.take i)).map aI)) from by have q := HRn.out; unfold Row at q; rw [HL2.out] at q; exact q)) | (at_builtin; refine wpList_append_own _ rfl _ _ 42 rfl wg.heap.size 2 i0 _ 1 8 Tryz.underlying42 HI.out HZ0.out HZ1.out HZ2.out rfl (by decide) _ _ _ rfl (HOn.out.alloc _) ⟨wn.heap.size, 0, none⟩ 1 1 (icell (aI x)).toList rfl rfl (by exact news_pl _ _ _) (icell_one _) (by unfold maxLen; omega) (by omega) (by rw [World.size_alloc]; have := hBn.size; omega) ?_; intro v' w1 hown' hgrow _; have R := app_rowv (t := aI x) (hBn.alloc (by have := hBn.size; omega) _) HRn.out (by rw [HL2.out]; exact hown') hgrow; have hB4 := R.2; have HR4 : Hid _ := R.1; clear R hown' hgrow))
          refine ⟨⟨i + 1, by go_num, by omega, (show Hid _ from ?_), (show Hid _ from ?_), hB4⟩, by simp [intOf]; omega⟩
          · rw [HSN.out]
            intro a ha
            rcases List.mem_append.1 ha with q | q
            · exact htk.out a q
            · simp at q; rw [q]; exact HC.out
          · rw [HSN.out, List.map_append]; exact HR4.out
        · have HC : Hid (¬ cdN x = 0) := hcd
          have hq : (cdN x != 0) = true := by simpa using hcd
          clear hcd
          go_wp2_with (first | (go_at_call 54; refine (hK _).mono ?_; rintro e wk ⟨rfl, hbwk⟩; have hBwk : Below w.heap.size w wk := bup (by with_reducible (repeat' first | assumption | exact Below.refl _ _ | refine Below.drew ?_ | refine bdrewN ?_ _ | refine Below.setCell ?_ (by first | exact Nat.le_refl _ | (simp; done) | (simp; omega) | omega) _ | refine Below.alloc ?_ (by first | exact Nat.le_refl _ | (simp; done) | (simp; omega) | omega) _)) hbwk; have zwk := hBwk.size; have o0wk : Own wk (w.heap.size) #[.string p, .int .i64 mo, .bool st, .func fp fc fl] := Own.keep (by with_reducible (repeat' first | assumption | refine Own.drew ?_ | refine Own.drewN ?_ _ | (refine Own.at ?_; first | rfl | (simp; done)) | refine Own.past ?_ _)) hbwk; have c0 := o0wk.cell; have f0 := o0wk.fro; have l0 := o0wk.lt; have o1wk : Own wk (wr.heap.size) #[.bool x.many, .int .i64 x.t, .int .i64 x.n, .string x.s, .bool x.b, .int .i64 x.c, .int .i64 x.r0, .int .i64 x.r1, .int .i64 x.r2, .int .i64 x.r3, .slice x.ep x.en x.ec] := Own.keep (by with_reducible (repeat' first | assumption | refine Own.drew ?_ | refine Own.drewN ?_ _ | (refine Own.at ?_; first | rfl | (simp; done)) | refine Own.past ?_ _)) hbwk; have c1 := o1wk.cell; have f1 := o1wk.fro; have l1 := o1wk.lt; have HRk : Hid _ := Row.keep (HR.out) (show Below wr.heap.size wr wk from bup (bal _ _) hbwk)) | (go_at_call 60; refine (gw_any _ x hin).mono ?_; rintro e wn ⟨rfl, hbwn⟩; have hBwn : Below w.heap.size w wn := bup (by with_reducible (repeat' first | assumption | exact Below.refl _ _ | refine Below.drew ?_ | refine bdrewN ?_ _ | refine Below.setCell ?_ (by first | exact Nat.le_refl _ | (simp; done) | (simp; omega) | omega) _ | refine Below.alloc ?_ (by first | exact Nat.le_refl _ | (simp; done) | (simp; omega) | omega) _)) hbwn; have zwn := hBwn.size; have o0wn : Own wn (w.heap.size) #[.string p, .int .i64 mo, .bool st, .func fp fc fl] := Own.keep (by with_reducible (repeat' first | assumption | refine Own.drew ?_ | refine Own.drewN ?_ _ | (refine Own.at ?_; first | rfl | (simp; done)) | refine Own.past ?_ _)) hbwn; have c0 := o0wn.cell; have f0 := o0wn.fro; have l0 := o0wn.lt; have o1wn : Own wn (wr.heap.size) #[.bool x.many, .int .i64 x.t, .int .i64 x.n, .string x.s, .bool x.b, .int .i64 x.c, .int .i64 x.r0, .int .i64 x.r1, .int .i64 x.r2, .int .i64 x.r3, .slice x.ep x.en x.ec] := Own.keep (by with_reducible (repeat' first | assumption | refine Own.drew ?_ | refine Own.drewN ?_ _ | (refine Own.at ?_; first | rfl | (simp; done)) | refine Own.past ?_ _)) hbwn; have c1 := o1wn.cell; have f1 := o1wn.fro; have l1 := o1wn.lt))
          have hR := firstN_atK HAi.out HKK.out htk.out HC.out
          go_ret2
          exact ⟨.inr ⟨by rw [hR]; exact HC.out, by rw [hR]; rfl⟩, by with_reducible (repeat' first | assumption | exact Below.refl _ _ | refine Below.drew ?_ | refine bdrewN ?_ _ | refine Below.setCell ?_ (by first | exact Nat.le_refl _ | (simp; done) | (simp; omega) | omega) _ | refine Below.alloc ?_ (by first | exact Nat.le_refl _ | (simp; done) | (simp; omega) | omega) _)⟩
    · have hlt' : ¬ (i : Int) < n := by omega
      have hR : Hid _ := firstN_allK (p := p) (by rw [HL.out]; omega) htk.out
      go_wp2
      go_ret2
      refine ⟨.inl ⟨hR.out, _, rfl, ?_⟩, by with_reducible (repeat' first | assumption | exact Below.refl _ _ | refine Below.drew ?_ | refine bdrewN ?_ _ | refine Below.setCell ?_ (by first | exact Nat.le_refl _ | (simp; done) | (simp; omega) | omega) _ | refine Below.alloc ?_ (by first | exact Nat.le_refl _ | (simp; done) | (simp; omega) | omega) _)⟩
      have q := HR.out
      rw [List.take_of_length_le (by rw [HL.out]; omega), HSZ.out] at q
      exact q
end Go.Proofs.YtcgcnpcimfaecaaGreatDoor
namespace Go.Proofs.YtcgcnpcimfaecaaGreatDoor
open Go.Shelf Go.RowKit
set_option linter.all false
attribute [local go_sem] Oper.semAt_some
/-- The numbers among some items. -/
def numsI (l : List It) : List Int := (l.filter (fun x => x.t == 1)).map (·.n)
theorem numsI_snoc {l : List It} {i : Nat} {x : It} (h : l[i]? = some x) : numsI (l.take (i + 1)) = numsI (l.take i) ++ (if x.t == 1 then [x.n] else []) := by
  unfold numsI
  rw [List.take_succ, h, Option.toList_some, List.filter_append, List.map_append]
  congr 1
  simp only [List.filter_cons, List.filter_nil]
  split <;> rfl
theorem numsI_len (l : List It) : (numsI l).length ≤ l.length := by
  unfold numsI; rw [List.length_map]; exact List.length_filter_le ..
def FtN (b : Nat) (u : Value) : Nat → Prop := fun q => q = b ∨ u.ownBlock = some q
theorem turnN {b : Nat} {v v' : Value} {W2 w3 X : World} {o : Obj} (hg : (W2.alloc o).grownBy w3 v.ownBlock) (hlt : b < W2.heap.size) (hblk : v'.ownBlock = v.ownBlock ∨ v'.ownBlock = some (W2.alloc o).heap.size) (hv' : ∀ g, v'.ownBlock = some g → g < w3.heap.size)
    (x1 : X.os = w3.os) (x2 : X.tape = w3.tape) (x3 : X.output = w3.output) (x4 : X.heap.size = w3.heap.size) (x5 : ∀ x, x ≠ b → X.heap[x]? = w3.heap[x]?) : Turn (FtN b v) (FtN b v') W2 X := by
  have hz := hg.size
  rw [World.size_alloc] at hz
  refine ⟨x1.trans hg.os, x2.trans hg.tape, x3.trans hg.output, by omega, fun k hk hn => ?_, fun k hk => ?_⟩
  · rw [x5 k (fun e => hn (.inl e))]
    exact (hg.block k (by rw [World.size_alloc]; omega) (fun e => hn (.inr e.symm))).trans (Below.heap_alloc W2 _ k hk)
  · rw [x4]
    rcases hk with h | h
    · exact ⟨.inl (.inl h), by omega⟩
    · refine ⟨?_, hv' k h⟩
      rcases hblk with e | e
      · rw [e] at h; exact .inl (.inr h)
      · rw [e] at h; injection h with h; rw [World.size_alloc] at h; exact .inr (by omega)
set_option maxHeartbeats 4000000 in
set_option maxRecDepth 100000 in
theorem nof_any (w : World) (v : Value) (L : List (Ag × List En)) (hv : AV w v (L.map Prod.fst)) (h40 : L.length ≤ 1099511627776) (hE : Hid (∀ p ∈ L, AgE w p)) (hM : (itms L).length ≤ 1099511627776) :
    Calls Tryz.prog 111 #[v] w fun e w' => (∃ u, e = .returned u ∧ Row icell 1 2 w' w.heap.size u (numsI (itms L))) ∧ Below w.heap.size w w' := by
  obtain ⟨i0, hi, hz0, hz1, hz2⟩ := info_parts infoI64
  have HI : Hid _ := hi
  have HZ0 : Hid _ := hz0
  have HZ1 : Hid _ := hz1
  have HZ2 : Hid _ := hz2
  clear hi hz0 hz1 hz2
  have hsl : ∃ q n c, v = .slice q n c := by obtain ⟨q, c, e, _⟩ := hv; exact ⟨q, _, c, e⟩
  obtain ⟨vq, vn, vc, rfl⟩ := hsl
  refine (callsIn_wide (n := 9)).1 ?_
  refine callsIn_of_wp_marks Tryz.func111 rfl trivial ?_ rfl
  simp only [Tryz.ntmps111, List.size_toArray, List.length_cons, List.length_nil, Nat.reduceAdd, Nat.reduceSub, Array.replicate_succ, Array.replicate_zero, List.push_toArray, List.append_toArray, List.nil_append, List.cons_append]
  have hlm := fun w => items_mk vq vn vc w
  gi_wp2_with (refine ⟨trivial, ?_⟩; gi_at_call 61; refine (callsIn_wide.2 (hlm _)).mono ?_; rintro e w1 ⟨rfl, rfl⟩)
  clear hlm
  obtain ⟨b, hb⟩ : ∃ b, w.heap.size = b := ⟨_, rfl⟩
  obtain ⟨V, hV⟩ : ∃ V, ((w.alloc (.cells #[.slice none 0 0] 42)).alloc (.cells #[.slice vq vn vc] 22)) = V := ⟨_, rfl⟩
  have v0 : Own V b #[.slice none 0 0] := by rw [← hV, ← hb]; exact (Own.new _ _ _).past _
  have v2 : Own V (b + 1) #[.slice vq vn vc] := by rw [← hV, ← hb]; exact Own.at (by simp)
  have hVs : V.heap.size = b + 2 := by rw [← hV, ← hb]; simp
  have hBV : Below b w V := by
    rw [← hV, ← hb]
    exact ((Below.refl _ w).alloc (Nat.le_refl _) _).alloc (by simp) _
  rw [hV, hb]
  have hgv := items_gives L (b + 1) w V (.slice vq vn vc) (v2.cell 0) hv h40 hE.out (fun q hq => hBV.block q (by omega))
  have HGV : Hid _ := hgv
  have HM : Hid _ := hM
  clear hV hgv hM
  refine range_out (gf := 104) (lb := #[.pointer (some ⟨b + 1, 0, none⟩)]) rfl (enters_of Tryz.func104 (by kernel_rfl) rfl)
    HGV.out (fun _ => rfl) (FtN b (.slice none 0 0)) ?own ?F0
    (fun k Ft A => ∃ u, Own A b #[u] ∧ Row icell 1 2 A (b + 2) u (numsI ((itms L).take k)) ∧ Ft = FtN b u ∧ Below b w A)
    (fun c k Ft A => False)
    ?hI ?hIx ?h0 ?round ?done ?stop
  case own =>
    rintro k (rfl | hk)
    · exact ⟨rfl, by rintro (h | h); omega; simp [Value.ownBlock] at h, by omega⟩
    · exact ⟨rfl, by rintro (h | h); omega; simp [Value.ownBlock] at h, by omega⟩
  case F0 => rintro k (h | h); omega; simp [Value.ownBlock] at h
  case hI =>
    rintro k Ft A A' ⟨u, o0, hR, rfl, hB⟩ hk
    have hsm : ∀ x, x < b + 2 → x < A.heap.size → A'.heap[x]? = A.heap[x]? := fun x h1 h2 => hk.block x h2 (.inl (by omega))
    exact ⟨u, o0.of_block (hsm _ (by omega) o0.lt), hR.of_block (fun g hg => hk.block g (hR.lt g hg).2 (.inr (.inr hg))), rfl, hB.trans ⟨hk.os, hk.tape, hk.output, hk.size, fun x hx => hsm x (by omega) (by have := o0.lt; omega)⟩⟩
  case hIx => rintro c k Ft A A' h; exact h.elim
  case h0 => exact ⟨_, v0, Row.nil _ _, rfl, hBV⟩
  case stop => rintro D c k Ft A hD hDA hk h; exact h.elim
  case done =>
    rintro D Ft A hD hDA ⟨u, o0, hR, rfl, hB⟩ hFD hlt hfr hK
    obtain ⟨up, uc, hu, _, _⟩ := Row.slice hR
    obtain ⟨m, hm⟩ : ∃ m, (numsI ((itms L).take (itms L).length)).length = m := ⟨_, rfl⟩
    rw [hm] at hu
    subst hu
    have c0 := o0.cell
    have l0 := o0.lt
    have HK : Hid _ := hK
    have HR : Hid (Row icell 1 2 A (b + 2) (.slice up m uc) (numsI ((itms L).take (itms L).length))) := hR
    clear hK hR
    gi_wp2
    refine ⟨by simp, .inl ⟨_, _, rfl, run_takeDeferred HK.out, ?_⟩⟩
    refine ⟨.slice up m uc, by simp [results, Tryz.results111, go_sem], ⟨_, rfl, ?_⟩, below_putObj hB (by omega) _⟩
    have q := HR.out
    rw [List.take_length] at q
    refine Row.mono (Row.of_block q (fun g hg => ?_)) (show b ≤ b + 2 by omega)
    exact World.putObj_heap_other (fun e => hFD (.inr (by rw [← e]; exact hg)))
  case round =>
    rintro L' k x Ft A hx ⟨u, o0, hR, rfl, hB⟩ hL hLA hFL hlt hfr
    obtain ⟨up, uc, hu, _, _⟩ := Row.slice hR
    obtain ⟨m, hm⟩ : ∃ m, (numsI ((itms L).take k)).length = m := ⟨_, rfl⟩
    rw [hm] at hu
    subst hu
    unfold encI
    dsimp only
    gi_wp2
    refine ⟨bal _ _, fun W2 hset r hr => ?_⟩
    have hTL : A.heap.size ≠ L' := by omega
    have oT : Own W2 A.heap.size #[.int .i64 x.t, .int .i64 x.n, .string x.s, .bool x.b, .int .i64 x.c] := (Own.new A #[.int .i64 x.t, .int .i64 x.n, .string x.s, .bool x.b, .int .i64 x.c] 26).of_block (hset.block _ hTL)
    have hAW : ∀ y, y < A.heap.size → y ≠ L' → W2.heap[y]? = A.heap[y]? := fun y h1 h2 => (hset.block y h2).trans (Below.heap_alloc A _ y h1)
    replace o0 := o0.of_block (hAW _ o0.lt (by omega))
    have hRW : Row icell 1 2 W2 (b + 2) (.slice up m uc) (numsI ((itms L).take k)) := hR.of_block (fun g hg => hAW g (hR.lt g hg).2 (fun e => hFL (.inr (by rw [← e]; exact hg))))
    have hz : W2.heap.size = A.heap.size + 1 := by rw [hset.size]; simp
    have hBW : Below b w W2 := hB.trans ⟨hset.os, hset.tape, hset.output, by omega, fun y hy => hAW y (by omega) (by omega)⟩
    have hmk : m ≤ 1099511627776 := by
      rw [← hm]
      exact Nat.le_trans (numsI_len _) (Nat.le_trans (by rw [List.length_take]; exact Nat.min_le_right _ _) HM.out)
    have hsn := numsI_snoc hx
    have HX : Hid _ := hx
    have HSN : Hid _ := hsn
    have HMM : Hid _ := hm
    have HRW : Hid (Row icell 1 2 W2 (b + 2) (.slice up m uc) (numsI ((itms L).take k))) := hRW
    clear hset hr r hB hx hR hsn hm hRW
    have c0 := o0.cell
    have f0 := o0.fro
    have l0 := o0.lt
    have cT := oT.cell
    have lT := oT.lt
    have HZ : Hid _ := hz
    clear hz
    have hFW : ∀ q, FtN b (.slice up m uc) q → q < W2.heap.size := by
      rintro q (h | h)
      · omega
      · exact (HRW.out.lt q h).2
    cases hs : (x.t == 1)
    · have HS : Hid _ := hs
      gi_wp2
      refine ⟨FtN b (.slice up m uc), Turn.same hFW, _, o0, ?_, rfl, hBW⟩
      rw [HSN.out, HS.out]
      simp only [Bool.false_eq_true, if_false, List.append_nil]
      exact HRW.out
    · have HS : Hid _ := hs
      have hrow : Hid (W2.ownsRow (b + 2) 2 1 (.slice up m uc) m (flatC icell (numsI ((itms L).take k)))) := (show W2.ownsRow (b + 2) 2 1 (.slice up m uc) m (flatC icell (numsI ((itms L).take k))) from by have h := HRW.out; unfold Row at h; rw [HMM.out] at h; exact h)
      have hne : ∀ y, y < b + 2 → (Value.slice up m uc).ownBlock ≠ some y := fun y hy e => by have := (HRW.out.lt y e).1; omega
      gi_wp2_with (gi_at_builtin; refine wpListIn_append_own_at _ rfl _ _ 42 rfl (b + 2) 2 i0 _ 1 8 Tryz.underlying42 HI.out HZ0.out HZ1.out HZ2.out rfl (by decide) _ m (flatC icell (numsI ((itms L).take k))) rfl (hrow.out.alloc _) ⟨W2.heap.size, 0, none⟩ 1 1 (icell x.n).toList rfl rfl (by exact news_pl _ _ _) (icell_one _) (by unfold maxLen; omega) (by omega) (by have := HZ.out; simp; omega) ?_; intro v' w3 hown' hgrow _ hblk; obtain ⟨g', cap', rfl⟩ := ownsRow_succ hown'; have hg3 : ∀ x, x < W2.heap.size → (Value.slice up m uc).ownBlock ≠ some x → w3.heap[x]? = W2.heap[x]? := (fun x h1 h2 => (hgrow.block x (by simp; omega) (fun e => h2 e.symm)).trans (Below.heap_alloc W2 _ x h1)); have p0 := o0.of_block (hg3 _ l0 (hne _ (by omega))); have q0 := p0.cell; have g0 := p0.fro; have m0 := p0.lt; have HG : Hid _ := hg3; have HGR : Hid _ := hgrow; have HOW : Hid _ := hown'; clear hg3 hgrow hown')
      have hz := HZ.out
      have hTn : Row icell 1 2 w3 (b + 2) (.slice (some ⟨g', 0, none⟩) (m + 1) cap') (numsI ((itms L).take (k + 1))) := by
        rw [HSN.out, HS.out]
        simp only [if_true]
        unfold Row
        rw [List.length_append, HMM.out, flatC_snoc]
        exact HOW.out
      have hB3 : Below b w w3 := hBW.trans ⟨HGR.out.os, HGR.out.tape, HGR.out.output, by have := HGR.out.size; rw [World.size_alloc] at this; omega, fun y hy => HG.out y (by omega) (hne y (by omega))⟩
      refine ⟨FtN b (.slice (some ⟨g', 0, none⟩) (m + 1) cap'), turnN HGR.out (by omega) hblk (fun g hg => (hTn.lt g hg).2) rfl rfl rfl (by rw [set_size]) (fun y h1 => set_other h1), _, own_put1 p0, ?_, rfl, ?_⟩
      · refine hTn.of_block (fun g hg => ?_)
        have := (hTn.lt g hg).1
        exact set_other (by show g ≠ b; omega)
      · exact hB3.setCell (p := ⟨b, 0, none⟩) (Nat.le_refl _) _
end Go.Proofs.YtcgcnpcimfaecaaGreatDoor
