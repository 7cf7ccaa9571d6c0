/- The iterator of a text's pieces gives just these, a panic of a round going through it -/
import Derived.Test.YtcmjhjnpcogmgaaGreatDoorUAuto
import Derived.Test.YtcmjhjnpcogmgaaGreatDoorULR3
import Derived.Test.YtcmjhjnpcogmgaaGreatDoorULFLFp
import Derived.Shelf.Abstract
import Derived.Shelf.RegionOpen
import Derived.OwnWalkIn
import Derived.TacticsInMore
import Derived.LoopNIn
import Derived.LoopIn
set_option linter.all false
set_option maxRecDepth 100000
set_option maxHeartbeats 4000000
namespace Go.Proofs.YtcmjhjnpcogmgaaGreatDoor
open Go.Shelf Go.RowKit
attribute [local go_sem] Oper.semAt_some
def encP (x : Nat × List UInt8) : Array Value := #[.int .i64 x.1, .string (bs x.2)]
def strOf : Value → Nat | .string s => s.size | _ => 0
theorem trimB (s : ByteArray) (w : World) : Calls Tryz.prog 81 #[.string s, .string ⟨#[32]⟩] w fun e w' => e = .returned (.string (bs (dropB s.data.toList))) ∧ Below w.heap.size w w' :=
 trimL s ⟨#[32]⟩ w zq16 (ascii_all zq16)
theorem bs_data (l : List UInt8) : (bs l).data.toList = l := by simp [bs]
theorem bs_size (l : List UInt8) : (bs l).size = l.length := by simp [bs, ByteArray.size]
theorem bs_of (s : ByteArray) : bs s.data.toList = s := by simp [bs]
theorem enc_eq (n : Nat) (q : ByteArray) (K : Nat) (h : q.size ≤ n) : encP (n - q.data.toList.length, q.data.toList.take K) = #[.int .i64 ((n : Int) - (q.size : Int)), .string (q.extract 0 K)] := by
 unfold encP
 have e1 : ((n - q.data.toList.length : Nat) : Int) = (n : Int) - (q.size : Int) := by rw [← size_len]; omega
 have e2 : bs (q.data.toList.take K) = q.extract 0 K := by rw [← ext_to, bs_of]
 rw [e2]; simp only [e1]
theorem pcs_succ (f : Nat) (rest : List UInt8) (n : Nat) : pcs (f + 1) rest n = (n - (dropB rest).length, (dropB rest).take (reachL (dropB rest))) ::
   (if (dropB rest).take (reachL (dropB rest)) = [] then [] else pcs f ((dropB rest).drop (reachL (dropB rest))) n) := rfl
theorem pieces_givesP (s : ByteArray) (B : Nat) (w0 : World) (hB : w0.cell? ⟨B, 0, none⟩ = some (.string s)) (h1 : 1 ≤ s.size) (hs : s.size < 4294967281) :
  GivesP Tryz.prog 80 #[.pointer (some ⟨B, 0, none⟩)] encP (pcsOf s) (fun k => k = B) w0 := by
 intro l J Jx Jp Ft0 W hown hF0 hJ hJx hJp hY h0 m
 obtain ⟨hB1, hB2, hB3⟩ := hown B rfl
 have hc : W.cell? ⟨B, 0, none⟩ = some (.string s) := (World.cell?_of_block hB1).trans hB
 have h1' : (1 : Int) ≤ s.size := by omega
 have HY : Hid _ := hY
 have HJ : Hid _ := hJ
 have HJx : Hid _ := hJx
 have HJp : Hid _ := hJp
 clear hY hJ hJx hJp hown hB hB1
 refine callsIn_wide.2 ((callsIn_wide (n := 5)).1 ?_)
 refine callsIn_of_wp Tryz.func80 rfl trivial ?_ rfl
 simp only [Tryz.ntmps80, List.size_toArray, List.length_cons, List.length_nil, Nat.reduceAdd, Nat.reduceSub, Array.replicate_succ, Array.replicate_zero, List.push_toArray, List.append_toArray, List.nil_append, List.cons_append]
 gi_wp2
 gi_loopw [3] (fun v wr => ∃ (r0 : ByteArray) (k f : Nat) (Ft : Nat → Prop), v = .string r0 ∧ J k Ft wr ∧ W.heap.size ≤ wr.heap.size ∧ (∀ b, Ft b → b < wr.heap.size) ∧ (∀ b, Ft b → Ft0 b ∨ W.heap.size ≤ b) ∧ wr.cell? ⟨B, 0, none⟩ = some (.string s) ∧
   Hid ((pcsOf s).drop k = pcs f r0.data.toList s.size ∧ r0.size < f ∧ r0.size ≤ s.size)) (fun v _ => strOf v)
 case atStart =>
  refine ⟨_, 0, s.size, Ft0, rfl, h0, Nat.le_refl _, hF0, fun b h => .inl h, hc, ?_, ?_, ?_⟩
  ·rw [List.drop_zero, ext_from]; rfl
  ·rw [ByteArray.size_extract]; omega
  ·rw [ByteArray.size_extract]; omega
 case round =>
  obtain ⟨r0, k, f, Ft, rfl, hJw, hsz, hlt, hfr, hcw, HP⟩ := hrel
  obtain ⟨hP, hf, hrs⟩ := HP.out
  clear HP
  obtain ⟨f', rfl⟩ : ∃ f', f = f' + 1 := ⟨f - 1, zq17⟩
  rw [pcs_succ] at hP
  have hT := fun w => trimB r0 w
  have hdl := dropB_le r0.data.toList
  have ed : dropB r0.data.toList = (bs (dropB r0.data.toList)).data.toList := (bs_data _).symm
  rw [ed] at hP hdl
  rw [← size_len, ← size_len] at hdl
  revert hT hP hdl
  clear ed
  generalize bs (dropB r0.data.toList) = q
  intro hP hT hdl
  obtain ⟨K, hKe⟩ : ∃ K, reachL q.data.toList = K := ⟨_, rfl⟩
  have hKl := reachL_le q.data.toList
  have hK := fun w => reach_any q w (by unfold maxLen; omega)
  have hx : (pcsOf s)[k]? = some (s.size - q.data.toList.length, q.data.toList.take K) := by
   have h := congrArg (fun l => l[0]?) hP
   simp only [List.getElem?_drop, Nat.add_zero, List.getElem?_cons_zero, hKe] at h
   exact h
  have hnil := take_nil_iff q.data.toList
  have hps := fun h => reachL_pos (l := q.data.toList) h
  rw [hKe] at hKl hK hP hnil hps
  rw [← size_len] at hKl
  clear hKe
  have hKl' : (K : Int) ≤ q.size := by omega
  have hq1 : (q.size : Int) ≤ s.size := by omega
  have hq2 : q.size ≤ s.size := by omega
  have hq3 : s.size < 9223372036854775807 := by omega
  have hBw : B < wr.heap.size := by omega
  have hFB : ¬ Ft B := fun h => by rcases hfr B h with h2 | h2; exact hB2 h2; omega
  have HYr : Hid (∀ w2, Below wr.heap.size wr w2 → YieldAt Fence.wide 4 Tryz.prog l #[.int .i64 ((s.size : Int) - (q.size : Int)), .string (q.extract 0 K)] w2 fun e W' => ∃ Ft', Turn Ft Ft' wr W' ∧
    ((e = .returned (.bool true) ∧ J (k + 1) Ft' W') ∨ (e = .returned (.bool false) ∧ Jx (k + 1) Ft' W') ∨ (∃ c, e = .panicked c ∧ Jp c (k + 1) Ft' W'))) := fun w2 hb => by
   have h := HY.out k _ Ft w2 hx (HJ.out _ _ _ _ hJw (Keep.of_below hb (Nat.le_refl _))) (Nat.le_trans hsz hb.size) (fun b h => Nat.lt_of_lt_of_le (hlt b h) hb.size) hfr 4
   rw [enc_eq _ _ _ hq2] at h
   exact h.mono fun e W' ⟨Ft', ht, hh⟩ => ⟨Ft', Turn.below hb (Nat.le_refl _) ht hlt, hh⟩
  have esz : (q.extract 0 K).size = K := by rw [ByteArray.size_extract]; omega
  have HP : Hid _ := hP
  have Hx : Hid _ := hx
  clear hP hx
  by_cases hqn : q.data.toList = []
  ·have hp0 : (q.extract 0 K).toList = [] := by rw [toL, ext_to]; exact hnil.2 hqn
   have hp1 : (q.extract 0 K).toList.isEmpty = true := by rw [hp0]; rfl
   have hend : (pcsOf s).length = k + 1 := by
    have h := HP.out
    rw [if_pos (hnil.2 hqn)] at h
    have h2 := congrArg List.length h
    rw [List.length_drop, List.length_singleton] at h2
    omega
   clear hnil hps
   gi_wp2_with (first | (refine ⟨trivial, ?_⟩; gi_at_call 81; refine (callsIn_wide.2 (hT _)).mono ?_; rintro e w1 ⟨rfl, hb⟩; have hB1 : Below wr.heap.size wr w1 := hb; clear hb hT) | (refine ⟨trivial, ?_⟩; gi_at_call 82; refine (callsIn_wide.2 (hK _)).mono ?_; rintro e w2 ⟨rfl, hb⟩; have hB2 : Below wr.heap.size wr w2 := bup hB1 hb; clear hb hK; have hc2 : w2.cell? ⟨B, 0, none⟩ = some (.string s) := (hB2.cell (p := ⟨B, 0, none⟩) hBw).trans hcw; obtain ⟨fn, tmps, assign, body, hy, hR⟩ := HYr.out w2 hB2))
   refine hR.mono ?_
   rintro e W3 ⟨Ft', ht, (⟨rfl, hJ3⟩ | ⟨rfl, hJx3⟩ | ⟨cp, rfl, hJp3⟩)⟩
   ·gi_wp2
    refine bodyPost_ret (results_none rfl _ _ _) rfl ?_
    refine ⟨Ft', Nat.le_trans hsz ht.size, fun b h => (ht.foot b h).2, fun b h => ?_, .inl ⟨⟨_, rfl⟩, .inl (by rw [hend]; exact hJ3)⟩⟩
    rcases (ht.foot b h).1 with h2 | h2
    ·exact hfr b h2
    ·exact .inr zq17
   ·gi_wp2
    refine bodyPost_ret (results_none rfl _ _ _) rfl ?_
    refine ⟨Ft', Nat.le_trans hsz ht.size, fun b h => (ht.foot b h).2, fun b h => ?_, .inl ⟨⟨_, rfl⟩, .inr ⟨k, zq17, hJx3⟩⟩⟩
    rcases (ht.foot b h).1 with h2 | h2
    ·exact hfr b h2
    ·exact .inr zq17
   ·refine ⟨rfl, Ft', Nat.le_trans hsz ht.size, fun b h => (ht.foot b h).2, fun b h => ?_, .inr ⟨cp, k, rfl, zq17, hJp3⟩⟩
    rcases (ht.foot b h).1 with h2 | h2
    ·exact hfr b h2
    ·exact .inr zq17
  ·have hK1 := hps hqn
   have hp0 : ¬ (q.extract 0 K).toList = [] := by rw [toL, ext_to]; exact fun h => hqn (hnil.1 h)
   have hp1 : (q.extract 0 K).toList.isEmpty = false := by cases h2 : (q.extract 0 K).toList; exact absurd h2 hp0; rfl
   have hP2 : (pcsOf s).drop (k + 1) = pcs f' (q.data.toList.drop K) s.size ∧ k < (pcsOf s).length := by
    have h := HP.out
    rw [if_neg (fun h => hqn (hnil.1 h))] at h
    constructor
    ·rw [← List.drop_drop, h]; rfl
    ·have h2 := congrArg List.length h
     rw [List.length_drop, List.length_cons] at h2
     omega
   have HP2 : Hid _ := hP2
   clear hnil hps hP2
   gi_wp2_with (first | (refine ⟨trivial, ?_⟩; gi_at_call 81; refine (callsIn_wide.2 (hT _)).mono ?_; rintro e w1 ⟨rfl, hb⟩; have hB1 : Below wr.heap.size wr w1 := hb; clear hb hT) | (refine ⟨trivial, ?_⟩; gi_at_call 82; refine (callsIn_wide.2 (hK _)).mono ?_; rintro e w2 ⟨rfl, hb⟩; have hB2 : Below wr.heap.size wr w2 := bup hB1 hb; clear hb hK; have hc2 : w2.cell? ⟨B, 0, none⟩ = some (.string s) := (hB2.cell (p := ⟨B, 0, none⟩) hBw).trans hcw; obtain ⟨fn, tmps, assign, body, hy, hR⟩ := HYr.out w2 hB2))
   refine hR.mono ?_
   rintro e W3 ⟨Ft', ht, (⟨rfl, hJ3⟩ | ⟨rfl, hJx3⟩ | ⟨cp, rfl, hJp3⟩)⟩
   ·have hc3 : W3.cell? ⟨B, 0, none⟩ = some (.string s) := (World.cell?_of_block (ht.block B hBw hFB)).trans hcw
    gi_wp2
    go_roundw
    case rel =>
     refine ⟨_, k + 1, f', Ft', rfl, hJ3, Nat.le_trans hsz ht.size, fun b h => (ht.foot b h).2, fun b h => ?_, hc3, ?_, ?_, ?_⟩
     ·rcases (ht.foot b h).1 with h2 | h2
      ·exact hfr b h2
      ·exact .inr zq17
     ·rw [HP2.out.1, ext_from]
     ·rw [ByteArray.size_extract]; omega
     ·rw [ByteArray.size_extract]; omega
    case measure => simp [strOf]; omega
   ·gi_wp2
    refine bodyPost_ret (results_none rfl _ _ _) rfl ?_
    refine ⟨Ft', Nat.le_trans hsz ht.size, fun b h => (ht.foot b h).2, fun b h => ?_, .inl ⟨⟨_, rfl⟩, .inr ⟨k, HP2.out.2, hJx3⟩⟩⟩
    rcases (ht.foot b h).1 with h2 | h2
    ·exact hfr b h2
    ·exact .inr zq17
   ·refine ⟨rfl, Ft', Nat.le_trans hsz ht.size, fun b h => (ht.foot b h).2, fun b h => ?_, .inr ⟨cp, k, rfl, HP2.out.2, hJp3⟩⟩
    rcases (ht.foot b h).1 with h2 | h2
    ·exact hfr b h2
    ·exact .inr zq17
end Go.Proofs.YtcmjhjnpcogmgaaGreatDoor
namespace Go.Proofs.YtcmjhjnpcogmgaaGreatDoor
open Go.Shelf Go.RowKit
attribute [local go_sem] Oper.semAt_some
def encT (t : Tk) : Array Value := #[(.agg #[.int .i64 t.kind, .int .i64 t.at', .int .i64 t.num, .string t.str, .int .i64 t.c0, .int .i64 t.c1, .int .i64 t.r0, .int .i64 t.r1, .int .i64 t.r2, .int .i64 t.r3, .int .i64 t.code])]
theorem Nam_of {W w : World} (h : Vv.Nam w) (e : W.heap[2]? = w.heap[2]?) : Vv.Nam W := by
 have h' : w.var? Tryz.prog "oriel/value.names" = _ := h
 show W.var? Tryz.prog "oriel/value.names" = _
 unfold World.var? at h' ⊢
 simp only [Vv.gNam, Option.bind_some] at h' ⊢
 rw [e]; exact h'
theorem Nam_lt {w : World} (h : Vv.Nam w) : 2 < w.heap.size := by
 have h0 := h.cell 0
 obtain ⟨o, ho, _⟩ := cells_of_cell (v := Value.string ⟨(Vv.namesL[0]).toArray⟩) (h0.trans rfl)
 exact (Array.getElem?_eq_some_iff.1 ho).1
theorem Mx_of {W w : World} (h : Mx w) (e : W.heap[1]? = w.heap[1]?) : Mx W := by
 obtain ⟨m, hm⟩ := h
 exact ⟨m, (World.cell?_of_block e).trans hm⟩
theorem Mx_lt {w : World} (h : Mx w) : 1 < w.heap.size := by
 obtain ⟨m, hm⟩ := h
 obtain ⟨o, ho, _⟩ := cells_of_cell hm
 exact (Array.getElem?_eq_some_iff.1 ho).1
def ownT (B : Nat) : Nat → Prop := fun k => k = B ∨ k = 2 ∨ k = 1
theorem pcs_len : ∀ (f : Nat) (rest : List UInt8) (n : Nat) (x : Nat × List UInt8), x ∈ pcs f rest n → x.2.length ≤ rest.length
 | 0, rest, n, x, h => by simp [pcs] at h
 | f + 1, rest, n, x, h => by
  rw [pcs_succ, List.mem_cons] at h
  have h1 := dropB_le rest
  rcases h with rfl | h
  ·simp only [List.length_take]; omega
  ·split at h
   ·simp at h
   ·have := pcs_len f _ n x h
    rw [List.length_drop] at this; omega
theorem pcsOf_len {s : ByteArray} {k : Nat} {x : Nat × List UInt8} (h : (pcsOf s)[k]? = some x) : x.2.length ≤ s.size := by
 have := pcs_len _ _ _ x (List.mem_of_getElem? h)
 rw [List.length_drop, ← size_len] at this; omega
theorem cutW_at : ∀ (l : List Tk) (k : Nat) (t : Tk), (∀ (j : Nat) (u : Tk), j < k → l[j]? = some u → u.kind ≠ 8) → l[k]? = some t → (cutW l)[k]? = some t ∧ (t.kind = 8 → (cutW l).length = k + 1)
 | [], k, t, _, h => by simp at h
 | u :: r, 0, t, _, h => by
  simp at h; subst h
  refine ⟨rfl, fun hk => ?_⟩
  simp [cutW, hk]
 | u :: r, k + 1, t, hn, h => by
  have h0 := hn 0 u zq17 rfl
  obtain ⟨i1, i2⟩ := cutW_at r k t (fun j v hj hv => hn (j + 1) v zq17 (by simpa using hv)) (by simpa using h)
  simp only [cutW, if_neg h0, List.getElem?_cons_succ, List.length_cons]
  refine ⟨i1, fun hk => ?_⟩
  have := i2 hk
  omega
theorem cutW_all : ∀ (l : List Tk), (∀ (j : Nat) (u : Tk), l[j]? = some u → u.kind ≠ 8) → cutW l = l
 | [], _ => rfl
 | u :: r, hn => by
  have h0 := hn 0 u rfl
  rw [cutW, if_neg h0, cutW_all r (fun j v hv => hn (j + 1) v (by simpa using hv))]
theorem pieces_mk (s : ByteArray) (w : World) : Calls Tryz.prog 51 #[.string s] w fun e w' => e = .returned (.func (.func 80) #[] #[.pointer (some ⟨w.heap.size, 0, none⟩)]) ∧ w' = w.alloc (.cells #[.string s] 9) := by
 go_enter Tryz.func51, Tryz.ntmps51
 go_wp2
 go_ret
 exact ⟨rfl, rfl⟩
theorem lex_mk (s : ByteArray) (w : World) : Calls Tryz.prog 29 #[.string s] w fun e w' => e = .returned (.func (.func 48) #[] #[.pointer (some ⟨w.heap.size, 0, none⟩)]) ∧ w' = w.alloc (.cells #[.string s] 9) := by
 go_enter Tryz.func29, Tryz.ntmps29
 go_wp2
 go_ret
 exact ⟨rfl, rfl⟩
theorem three_ways {e : Ending} {P Q : Prop} {R : List PanicEntry → Prop} (h : (e = .returned (.bool true) ∧ P) ∨ (e = .returned (.bool false) ∧ Q) ∨ (∃ c, e = .panicked c ∧ R c)) : (∃ b, e = .returned (.bool b) ∧ ((b = true ∧ P) ∨ (b = false ∧ Q))) ∨ ∃ c, e = .panicked c ∧ R c := by
 rcases h with ⟨h1, h2⟩ | ⟨h1, h2⟩ | h
 ·exact .inl ⟨true, h1, .inl ⟨rfl, h2⟩⟩
 ·exact .inl ⟨false, h1, .inr ⟨rfl, h2⟩⟩
 ·exact .inr h
theorem lex_givesP (s : ByteArray) (B : Nat) (w0 : World) (hB : w0.cell? ⟨B, 0, none⟩ = some (.string s)) (hs : s.size < 4294967281) (hN : Vv.Nam w0) (hM : Mx w0) :
  GivesP Tryz.prog 48 #[.pointer (some ⟨B, 0, none⟩)] encT (toks s) (ownT B) w0 := by
 intro l J Jx Jp Ft0 W hown hF0 hJ hJx hJp hY h0 m
 obtain ⟨hB1, hB2, hB3⟩ := hown B (.inl rfl)
 have hc : W.cell? ⟨B, 0, none⟩ = some (.string s) := (World.cell?_of_block hB1).trans hB
 have hNW : Vv.Nam W := Nam_of hN (hown _ (.inr (.inl rfl))).1
 have hMW : Mx W := Mx_of hM (hown _ (.inr (.inr rfl))).1
 have hNF := (hown _ (.inr (.inl rfl))).2.1
 have hMF := (hown _ (.inr (.inr rfl))).2.1
 clear hown hB hB1 hN hM
 have HY : Hid _ := hY
 have HJ : Hid _ := hJ
 have HJx : Hid _ := hJx
 have HJp : Hid _ := hJp
 clear hY hJ hJx hJp
 have hpre := fun w => pre_any s ⟨#[61]⟩ w
 have mixed : Tryz.prog.follows .mixedOrders = true := by kernel_rfl
 refine callsIn_wide.2 ((callsIn_wide (n := 7)).1 ?_)
 cases hF : isF s
 ·-- no formula: one token
  have et : toks s = [tk0 8] := by unfold toks; rw [hF]; rfl
  have hpre' : ∀ w, Calls Tryz.prog 49 #[.string s, .string ⟨#[61]⟩] w fun e w' => e = .returned (.bool false) ∧ Below w.heap.size w w' := fun w => by rw [← hF]; exact hpre w
  clear hpre
  have HYr : Hid (∀ w2, Below W.heap.size W w2 → YieldAt Fence.wide 6 Tryz.prog l #[(.agg #[.int .i64 (tk0 8).kind, .int .i64 (tk0 8).at', .int .i64 (tk0 8).num, .string (tk0 8).str, .int .i64 (tk0 8).c0, .int .i64 (tk0 8).c1, .int .i64 (tk0 8).r0, .int .i64 (tk0 8).r1, .int .i64 (tk0 8).r2, .int .i64 (tk0 8).r3, .int .i64 (tk0 8).code])] w2 fun e W' => ∃ Ft', Turn Ft0 Ft' W W' ∧
    ((e = .returned (.bool true) ∧ J 1 Ft' W') ∨ (e = .returned (.bool false) ∧ Jx 1 Ft' W') ∨ (∃ c, e = .panicked c ∧ Jp c 1 Ft' W'))) := fun w2 hb => by
   have h := HY.out 0 (tk0 8) Ft0 w2 (by rw [et]; rfl) (HJ.out _ _ _ _ h0 (Keep.of_below hb (Nat.le_refl _))) hb.size (fun b h => Nat.lt_of_lt_of_le (hF0 b h) hb.size) (fun b h => .inl h) 6
   exact h.mono fun e W' ⟨Ft', ht, hh⟩ => ⟨Ft', Turn.below hb (Nat.le_refl _) ht hF0, hh⟩
  refine callsIn_of_wp_marks Tryz.func48 rfl trivial ?_ rfl
  simp only [Tryz.ntmps48, List.size_toArray, List.length_cons, List.length_nil, Nat.reduceAdd, Nat.reduceSub, Array.replicate_succ, Array.replicate_zero, List.push_toArray, List.append_toArray, List.nil_append, List.cons_append]
  gi_wp2_with (refine ⟨trivial, ?_⟩; gi_at_call 49; refine (callsIn_wide.2 (hpre' _)).mono ?_; rintro e w1 ⟨rfl, hb⟩; have hB1 : Below W.heap.size W w1 := bup zq2 hb)
  have hY1 : W.heap.size < w1.heap.size := Nat.lt_of_lt_of_le (by simp) hb.size
  have hcy : w1.cell? ⟨W.heap.size, 0, none⟩ = some (.func (.yield l) #[] #[]) := (hb.cell (p := ⟨W.heap.size, 0, none⟩) (by simp)).trans (by simp)
  clear hb
  gi_region_with_o (first | (refine ⟨trivial, ?_⟩; gi_at_call 50; refine (callsIn_wide.2 (wrong_any _)).mono ?_; rintro e w2 ⟨rfl, hb⟩; have hB2 : Below W.heap.size W w2 := bup zq2 hb; have hcy2 : w2.cell? ⟨W.heap.size, 0, none⟩ = some (.func (.yield l) #[] #[]) := (hb.cell (p := ⟨W.heap.size, 0, none⟩) hY1).trans hcy; obtain ⟨fn, tmps, assign, body, hy, hR⟩ := HYr.out w2 hB2) | (refine RoundIn.mono hR ?_; rintro e W3 ⟨Ft', ht, hh⟩; refine Or.elim (three_ways hh) ?_ (by rintro ⟨cp, rfl, hp⟩; exact ⟨Ft', ht.size, fun b h => (ht.foot b h).2, fun b h => (ht.foot b h).1, .inr ⟨cp, 0, rfl, by rw [et]; simp, hp⟩⟩); clear hh; rintro ⟨b, rfl, hh⟩))
  all_goals gi_wp2
  all_goals refine ⟨_, results_none rfl _ _ _, Ft', ht.size, fun b h => (ht.foot b h).2, fun b h => (ht.foot b h).1, .inl ⟨⟨_, rfl⟩, ?_⟩⟩
  all_goals rw [et]
  all_goals rcases hh with ⟨_, hh⟩ | ⟨_, hh⟩
  all_goals first | exact .inl hh | exact .inr ⟨0, by simp, hh⟩
 ·have hpre' : ∀ w, Calls Tryz.prog 49 #[.string s, .string ⟨#[61]⟩] w fun e w' => e = .returned (.bool true) ∧ Below w.heap.size w w' := fun w => by rw [← hF]; exact hpre w
  clear hpre
  have h1 : 1 ≤ s.size := by
   rw [size_len]
   cases hl : s.data.toList with
   | nil => unfold isF at hF; rw [hl] at hF; simp at hF
   | cons c t => simp
  have et : toks s = cutW ((pcsOf s).map tkAt) := by unfold toks; rw [hF]; rfl
  refine callsIn_of_wpK Tryz.func48 rfl ?_
  simp only [Tryz.ntmps48, List.size_toArray, List.length_cons, List.length_nil, Nat.reduceAdd, Nat.reduceSub, Array.replicate_succ, Array.replicate_zero, List.push_toArray, List.append_toArray, List.nil_append, List.cons_append]
  refine wpK_seq_k (n := 7) fun K hK => ?_
  gi_wp2
  refine wpK_seq_k (n := 7) fun K hK => ?_
  gi_wp2_with (refine ⟨trivial, ?_⟩; gi_at_call 49; refine (callsIn_wide.2 (hpre' _)).mono ?_; rintro e w1 ⟨rfl, hb⟩; have hB1 : Below W.heap.size W w1 := bup zq2 hb; have hc1 : w1.cell? ⟨B, 0, none⟩ = some (.string s) := (hB1.cell (p := ⟨B, 0, none⟩) hB3).trans hc)
  refine wpK_seq_k (n := 7) fun K hK => ?_
  gi_wp2_with (refine ⟨trivial, ?_⟩; gi_at_call 51; refine (callsIn_wide.2 (pieces_mk _ _)).mono ?_; rintro e w2 ⟨rfl, rfl⟩)
  refine wpK_block ?_
  have hY1 : W.heap.size < w1.heap.size := Nat.lt_of_lt_of_le (by simp) hb.size
  have hcy : w1.cell? ⟨W.heap.size, 0, none⟩ = some (.func (.yield l) #[] #[]) := (hb.cell (p := ⟨W.heap.size, 0, none⟩) (by simp)).trans (by simp)
  clear hb hc1
  obtain ⟨V, hV⟩ : ∃ V, w1.alloc (.cells #[.string s] 9) = V := ⟨_, rfl⟩
  have hVs : V.heap.size = w1.heap.size + 1 := by rw [← hV]; simp
  have hBV : Below W.heap.size W V := by rw [← hV]; exact hB1.alloc zq17 _
  have hVc : V.cell? ⟨w1.heap.size, 0, none⟩ = some (.string s) := by rw [← hV]; simp
  have hVy : V.cell? ⟨W.heap.size, 0, none⟩ = some (.func (.yield l) #[] #[]) := by
   rw [← hV]; exact (World.cell?_of_block (Below.heap_alloc w1 _ _ hY1)).trans hcy
  rw [hV]
  clear hV hcy hB1
  have hNV : Vv.Nam V := hNW.stays hBV
  have hMV : Mx V := hMW.stays hBV
  have hgN := Nam_lt hNW
  have hgM := Mx_lt hMW
  have hJV : J 0 Ft0 V := HJ.out _ _ _ _ h0 (Keep.of_below hBV (Nat.le_refl _))
  refine range_outP Tryz.func48 (gf := 80) (lb := #[.pointer (some ⟨w1.heap.size, 0, none⟩)]) rfl (enters_of Tryz.func80 zq14 rfl)
   (pieces_givesP s w1.heap.size V hVc h1 hs) (fun _ => rfl) Ft0
   (fun k hk => by subst hk; exact ⟨rfl, fun h => by have := hF0 _ h; omega, zq17⟩) (fun b h => by have := hF0 b h; omega)
   (fun k Ft A => J k Ft A ∧ Vv.Nam A ∧ Mx A ∧ A.cell? ⟨W.heap.size, 0, none⟩ = some (.func (.yield l) #[] #[]) ∧ Hid (∀ (j : Nat) (u : Tk), j < k → ((pcsOf s).map tkAt)[j]? = some u → u.kind ≠ 8))
   (fun c k Ft A => c = .ret ∧ k ≤ (toks s).length ∧ (Jx k Ft A ∨ (J k Ft A ∧ k = (toks s).length)))
   (fun c k Ft A => k ≤ (toks s).length ∧ Jp c k Ft A)
   ?hI ?hIx ?hIp ⟨hJV, hNV, hMV, hVy, fun j u hj _ => absurd hj zq17⟩ ?round ?done ?stop ?pan
  case hI =>
   rintro k Ft A A' ⟨a1, a2, a3, a4, a5⟩ hk
   obtain ⟨o, ho, _⟩ := cells_of_cell a4
   have hyl := (Array.getElem?_eq_some_iff.1 ho).1
   exact ⟨HJ.out _ _ _ _ a1 (hk.mono zq17 (fun _ h => h)), Nam_of a2 (hk.block _ (Nam_lt a2) (.inl zq17)), Mx_of a3 (hk.block _ (Mx_lt a3) (.inl zq17)), (World.cell?_of_block (hk.block _ hyl (.inl (by show W.heap.size < _; omega)))).trans a4, a5⟩
  case hIx =>
   rintro c k Ft A A' ⟨rfl, hle, hj⟩ hk
   refine ⟨rfl, hle, ?_⟩
   rcases hj with hj | ⟨hj, he⟩
   ·exact .inl (HJx.out _ _ _ _ hj (hk.mono zq17 (fun _ h => h)))
   ·exact .inr ⟨HJ.out _ _ _ _ hj (hk.mono zq17 (fun _ h => h)), he⟩
  case hIp =>
   rintro c k Ft A A' ⟨hle, hj⟩ hk
   exact ⟨hle, HJp.out _ _ _ _ _ hj (hk.mono zq17 (fun _ h => h))⟩
  case pan =>
   rintro D c k Ft A hD hDA hk ⟨hle, hj⟩ hFD hlt hfr hK
   refine ⟨by simp, .inl ⟨_, _, rfl, run_takeDeferred hK, ?_⟩⟩
   have hS := Sets.put A D (.deferred none)
   refine ⟨Ft, by rw [hS.size]; omega, fun b h => by rw [hS.size]; exact hlt b h, fun b h => ?_, .inr ⟨c, k, rfl, zq17, HJp.out _ _ _ _ _ hj (Keep.of_sets hS zq17 hFD)⟩⟩
   rcases hfr b h with h1 | h1
   ·exact .inl h1
   ·exact .inr zq17
  case done =>
   rintro D Ft A hD hDA ⟨a1, a2, a3, a4, a5⟩ hFD hlt hfr hK
   refine ⟨by simp, .inl ⟨_, _, rfl, run_takeDeferred hK, ?_⟩⟩
   have hS := Sets.put A D (.deferred none)
   refine ⟨_, results_none rfl _ _ _, Ft, by rw [hS.size]; omega, fun b h => by rw [hS.size]; exact hlt b h, fun b h => ?_, .inl ⟨⟨_, rfl⟩, ?_⟩⟩
   ·rcases hfr b h with h1 | h1
    ·exact .inl h1
    ·exact .inr zq17
   ·refine .inl (HJ.out _ _ _ _ ?_ (Keep.of_sets hS zq17 hFD))
    have e : (toks s).length = (pcsOf s).length := by
     rw [et, cutW_all, List.length_map]
     intro j u hu
     exact a5.out j u (by have := (List.getElem?_eq_some_iff.1 hu).1; rw [List.length_map] at this; exact this) hu
    rw [e]; exact a1
  case stop =>
   rintro D c k Ft A hD hDA hk ⟨rfl, hle, hj⟩ hFD hlt hfr hK
   refine wpK_of (n := 7) ?_
   gi_wp2
   refine ⟨by simp, .inl ⟨_, _, rfl, run_takeDeferred hK, ?_⟩⟩
   have hS := Sets.put A D (.deferred none)
   refine ⟨_, results_none rfl _ _ _, Ft, by rw [hS.size]; omega, fun b h => by rw [hS.size]; exact hlt b h, fun b h => ?_, .inl ⟨⟨_, rfl⟩, ?_⟩⟩
   ·rcases hfr b h with h1 | h1
    ·exact .inl h1
    ·exact .inr zq17
   ·rcases hj with hj | ⟨hj, he⟩
    ·exact .inr ⟨k, zq17, HJx.out _ _ _ _ hj (Keep.of_sets hS zq17 hFD)⟩
    ·exact .inl (HJ.out _ _ _ _ (by rw [← he]; exact hj) (Keep.of_sets hS zq17 hFD))
  case round =>
   rintro L k ⟨n0, p⟩ Ft A hx ⟨a1, a2, a3, a4, a5⟩ hL hLA hFL hlt hfr
   unfold encP
   dsimp only
   gi_wp2
   refine ⟨Below.refl _ _, fun W2 hset hr => ?_⟩
   have b1 : J k Ft W2 := HJ.out _ _ _ _ a1 (Keep.of_sets hset zq17 hFL)
   have b2 : Vv.Nam W2 := Nam_of a2 (hset.block _ zq17)
   have b3 : Mx W2 := Mx_of a3 (hset.block _ zq17)
   have b4 : W2.cell? ⟨W.heap.size, 0, none⟩ = some (.func (.yield l) #[] #[]) := (World.cell?_of_block (hset.block _ (by show W.heap.size ≠ _; omega))).trans a4
   have hlt2 : ∀ b, Ft b → b < W2.heap.size := fun b h => by rw [hset.size]; exact hlt b h
   have hL2 : L < W2.heap.size := by rw [hset.size]; exact hLA
   clear a1 a2 a3 a4 hset hlt hLA
   have hpl := pcsOf_len hx
   have hrd := read_any (bs p) W2 (by rw [bs_size]; exact Nat.lt_of_le_of_lt hpl hs) b2 b3
   have hmk : ((pcsOf s).map tkAt)[k]? = some (tkAt (n0, p)) := by rw [List.getElem?_map, hx]; rfl
   have hcw := cutW_at _ _ _ a5.out hmk
   rw [← et] at hcw
   have hkl : k < (toks s).length := (List.getElem?_eq_some_iff.1 hcw.1).1
   have HYr : Hid (∀ w2, Below W2.heap.size W2 w2 → YieldAt Fence.wide 8 Tryz.prog l (encT (tkAt (n0, p))) w2 fun e W' => ∃ Ft', Turn Ft Ft' W2 W' ∧ Turn Ft Ft' w2 W' ∧
     ((e = .returned (.bool true) ∧ J (k + 1) Ft' W') ∨ (e = .returned (.bool false) ∧ Jx (k + 1) Ft' W') ∨ (∃ c, e = .panicked c ∧ Jp c (k + 1) Ft' W'))) := fun w2 hb => by
    have h := HY.out k _ Ft w2 hcw.1 (HJ.out _ _ _ _ b1 (Keep.of_below hb (Nat.le_refl _))) (by have := hb.size; omega) (fun b h => Nat.lt_of_lt_of_le (hlt2 b h) hb.size) (fun b h => by rcases hfr b h with h1 | h1; exact .inl h1; exact .inr zq17) 8
    exact h.mono fun e W' ⟨Ft', ht, hh⟩ => ⟨Ft', Turn.below hb (Nat.le_refl _) ht hlt2, ht, hh⟩
   have ek : tkAt (n0, p) = tkSet (rdT (bs p)) n0 := rfl
   rw [ek] at HYr hcw hmk
   clear ek
   revert hrd HYr hcw hmk
   generalize rdT (bs p) = t
   generalize bs p = pb
   intro hrd hmk hcw HYr
   have HMK : Hid _ := hmk
   have HCW : Hid _ := hcw
   clear hcw hmk
   unfold encT tkSet at HYr
   dsimp only at HYr
   gi_wp2_with (refine ⟨trivial, ?_⟩; gi_at_call 52; refine (CallsIn.inRound L (callsIn_wide.2 hrd)).mono ?_; rintro e w3 ⟨rfl, hb3⟩; have b5 : w3.cell? ⟨W.heap.size, 0, none⟩ = some (.func (.yield l) #[] #[]) := (hb3.cell (p := ⟨W.heap.size, 0, none⟩) (by show W.heap.size < _; omega)).trans b4; have hz3 := hb3.size; have b6 : ∀ o, (w3.alloc o).cell? ⟨W.heap.size, 0, none⟩ = some (.func (.yield l) #[] #[]) := fun o => (World.cell?_of_block (Below.heap_alloc w3 _ _ (by show W.heap.size < _; omega))).trans b5; have oT : Own (w3.alloc (.cells #[.int .i64 t.kind, .int .i64 (n0 : Int), .int .i64 t.num, .string t.str, .int .i64 t.c0, .int .i64 t.c1, .int .i64 t.r0, .int .i64 t.r1, .int .i64 t.r2, .int .i64 t.r3, .int .i64 t.code] 43)) w3.heap.size #[.int .i64 t.kind, .int .i64 (n0 : Int), .int .i64 t.num, .string t.str, .int .i64 t.c0, .int .i64 t.c1, .int .i64 t.r0, .int .i64 t.r1, .int .i64 t.r2, .int .i64 t.r3, .int .i64 t.code] := Own.new _ _ _; obtain ⟨fn, tmps, assign, body, hy, hR⟩ := HYr.out (w3.alloc (.cells #[.int .i64 t.kind, .int .i64 (n0 : Int), .int .i64 t.num, .string t.str, .int .i64 t.c0, .int .i64 t.c1, .int .i64 t.r0, .int .i64 t.r1, .int .i64 t.r2, .int .i64 t.r3, .int .i64 t.code] 43)) (hb3.alloc hz3 _))
   refine RoundIn.mono hR ?_
   rintro e W5 ⟨Ft', ht, ht5, hh⟩
   have hFs : ∀ b, b < W2.heap.size → b < V.heap.size → ¬ Ft0 b → W5.heap[b]? = W2.heap[b]? := fun b h1 h2 h3 => ht.block b h1 (fun h => by rcases hfr b h with h4 | h4; exact h3 h4; omega)
   have hT5 : W5.cell? ⟨w3.heap.size, 0, none⟩ = some (.int .i64 t.kind) :=
    (World.cell?_of_block (ht5.block w3.heap.size (by simp) (fun h => by have := hlt2 _ h; omega))).trans (oT.cell 0)
   have d2 : Vv.Nam W5 := Nam_of b2 (hFs _ (Nam_lt b2) zq17 hNF)
   have d3 : Mx W5 := Mx_of b3 (hFs _ (Mx_lt b3) zq17 hMF)
   have d4 : W5.cell? ⟨W.heap.size, 0, none⟩ = some (.func (.yield l) #[] #[]) := (World.cell?_of_block (hFs W.heap.size zq17 zq17 (fun h => by have := hF0 _ h; omega))).trans b4
   clear hy hR HYr oT b6
   rcases hh with ⟨rfl, hJ5⟩ | ⟨rfl, hJ5⟩ | ⟨cp, rfl, hJ5⟩
   ·by_cases h8 : t.kind = 8
    ·have HCL : Hid ((toks s).length = k + 1) := HCW.out.2 h8
     rw [h8] at hT5
     gi_wp2
     exact ⟨Ft', ht, rfl, zq17, .inr ⟨hJ5, HCL.out.symm⟩⟩
    ·gi_wp2
     refine ⟨Ft', ht, hJ5, d2, d3, d4, ?_⟩
     intro j u hj hu
     by_cases hjk : j = k
     ·subst hjk
      rw [HMK.out] at hu
      cases hu
      exact h8
     ·exact a5.out j u zq17 hu
   ·gi_wp2
    exact ⟨Ft', ht, rfl, zq17, .inl hJ5⟩
   ·exact ⟨rfl, Ft', ht, zq17, hJ5⟩
end Go.Proofs.YtcmjhjnpcogmgaaGreatDoor
