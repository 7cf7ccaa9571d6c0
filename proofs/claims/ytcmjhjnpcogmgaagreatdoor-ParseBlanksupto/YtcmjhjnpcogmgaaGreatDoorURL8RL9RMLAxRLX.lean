/- What each of the document's readers answers at a place, told by the byte that stands there -/
import Derived.Test.YtcmjhjnpcogmgaaGreatDoorUAuto
import Derived.Test.YtcmjhjnpcogmgaaGreatDoorURL5
import Derived.Test.YtcmjhjnpcogmgaaGreatDoorURL6RL7RQRN
import Derived.Test.YtcmjhjnpcogmgaaGreatDoorURL1RL2RL3RL4
import Derived.Test.YtcmjhjnpcogmgaaGreatDoorULALKLG
import Derived.RangeFuncRecord
set_option linter.all false
set_option maxRecDepth 100000
set_option maxHeartbeats 4000000
namespace Go.Proofs.YtcmjhjnpcogmgaaGreatDoor
open Go.Shelf Go.RowKit
theorem ext_bs (s : ByteArray) (a K : Nat) : s.extract a (a + K) = bs ((s.data.toList.drop a).take K) := by rw [← bs_of (s.extract a (a + K)), ext_mid2, Nat.add_sub_cancel_left]
theorem bgn_dr {l : List UInt8} {i : Nat} (hi : i < l.length) (cs : List UInt8) : bgn (l.drop i) cs = cs.contains l[i] := by rw [List.drop_eq_getElem_cons hi]; rfl
theorem endAt_8 {t : Tk} (h : t.kind = 8) (a n : Nat) : endAt t a n = a := by unfold endAt; rw [if_pos h]
theorem endAt_n {t : Tk} (h : ¬ t.kind = 8) (a n : Nat) : endAt t a n = a + n := by unfold endAt; rw [if_neg h]
theorem cnum (s : ByteArray) (a : Nat) (w : World) (hs : s.size < 4294967281) (ha : a ≤ s.size) (h : bgn (s.data.toList.drop a) DG = true) (T : Tk) (en : Nat) (hT : T = tkSet (rdT (bs (pc (s.data.toList.drop a)))) a) (hen : en = endAt (rdT (bs (pc (s.data.toList.drop a)))) a (reachL (s.data.toList.drop a))) :
  Calls Tryz.prog 40 #[.string s, .int .i64 a] w fun e w' => e = .returned (.tuple #[(.agg #[.int .i64 T.kind, .int .i64 T.at', .int .i64 T.num, .string T.str, .int .i64 T.c0, .int .i64 T.c1, .int .i64 T.r0, .int .i64 T.r1, .int .i64 T.r2, .int .i64 T.r3, .int .i64 T.code]), .int .i64 (en : Nat)]) ∧ Below w.heap.size w w' := by
 have e := nx_num h
 rw [e.2, ← ext_bs] at hT
 rw [e.2, e.1, ← ext_bs] at hen
 rw [hT, hen]
 exact rnumber s a w hs ha
theorem cfault (s : ByteArray) (a : Nat) (w : World) (hs : s.size < 4294967281) (ha : a ≤ s.size) (h0 : bgn (s.data.toList.drop a) DG = false) (h1 : bgn (s.data.toList.drop a) [34] = false) (h : bgn (s.data.toList.drop a) [35] = true) (T : Tk) (en : Nat) (hT : T = tkSet (rdT (bs (pc (s.data.toList.drop a)))) a) (hen : en = endAt (rdT (bs (pc (s.data.toList.drop a)))) a (reachL (s.data.toList.drop a))) :
  Calls Tryz.prog 42 #[.string s, .int .i64 a] w fun e w' => e = .returned (.tuple #[(.agg #[.int .i64 T.kind, .int .i64 T.at', .int .i64 T.num, .string T.str, .int .i64 T.c0, .int .i64 T.c1, .int .i64 T.r0, .int .i64 T.r1, .int .i64 T.r2, .int .i64 T.r3, .int .i64 T.code]), .int .i64 (en : Nat)]) ∧ Below w.heap.size w w' := by
 have e := nx_f h0 h1 h
 rw [e.2, ← ext_bs] at hT
 rw [e.2, e.1, ← ext_bs] at hen
 rw [hT, hen]
 exact rfault s a w hs ha
theorem cquoted (s : ByteArray) (a : Nat) (w : World) (hs : s.size < 4294967281) (ha : a < s.size) (h0 : bgn (s.data.toList.drop a) DG = false) (h : bgn (s.data.toList.drop a) [34] = true) (T : Tk) (en : Nat) (hT : T = tkSet (rdT (bs (pc (s.data.toList.drop a)))) a) (hen : en = endAt (rdT (bs (pc (s.data.toList.drop a)))) a (reachL (s.data.toList.drop a))) :
  Calls Tryz.prog 41 #[.string s, .int .i64 a] w fun e w' => e = .returned (.tuple #[(.agg #[.int .i64 T.kind, .int .i64 T.at', .int .i64 T.num, .string T.str, .int .i64 T.c0, .int .i64 T.c1, .int .i64 T.r0, .int .i64 T.r1, .int .i64 T.r2, .int .i64 T.r3, .int .i64 T.code]), .int .i64 (en : Nat)]) ∧ Below w.heap.size w w' := by
 have e := nx_q h0 h
 have ed : (s.data.toList.drop a).drop 1 = s.data.toList.drop (a + 1) := List.drop_drop
 rw [ed] at e
 refine rquoted s a w hs ha T en ?_
 cases hq : qok (s.data.toList.drop (a + 1))
 ·rw [hq] at e
  have e2 : (rdT (bs (pc (s.data.toList.drop a)))) = tk0 8 := e.2
  right
  exact ⟨rfl, by rw [hT, e2], by rw [hen, e2]; exact endAt_8 rfl _ _⟩
 ·rw [hq] at e
  have e2 : (rdT (bs (pc (s.data.toList.drop a)))) = tkStr 2 (bs (qtx (s.data.toList.drop (a + 1)))) := e.2
  left
  refine ⟨rfl, by rw [hT, e2], ?_⟩
  rw [hen, e2, e.1, endAt_n (by simp [tkStr])]; omega
theorem cname (s : ByteArray) (a : Nat) (w : World) (hs : s.size < 4294967281) (ha : a < s.size) (h0 : bgn (s.data.toList.drop a) DG = false) (h1 : bgn (s.data.toList.drop a) [34] = false) (h2 : bgn (s.data.toList.drop a) [35] = false) (h : bgn (s.data.toList.drop a) LT = true) (T : Tk) (en : Nat) (hT : T = tkSet (rdT (bs (pc (s.data.toList.drop a)))) a) (hen : en = endAt (rdT (bs (pc (s.data.toList.drop a)))) a (reachL (s.data.toList.drop a))) :
  Calls Tryz.prog 44 #[.string s, .int .i64 a] w fun e w' => e = .returned (.tuple #[(.agg #[.int .i64 T.kind, .int .i64 T.at', .int .i64 T.num, .string T.str, .int .i64 T.c0, .int .i64 T.c1, .int .i64 T.r0, .int .i64 T.r1, .int .i64 T.r2, .int .i64 T.r3, .int .i64 T.code]), .int .i64 (en : Nat)]) ∧ Below w.heap.size w w' := by
 have e := nx_w h0 h1 h2 h
 obtain ⟨K, hK⟩ : ∃ K, runL (s.data.toList.drop a) WD = K := ⟨_, rfl⟩
 have hKl := runL_le (s.data.toList.drop a) WD
 rw [List.length_drop, ← size_len, hK] at hKl
 have hKs : a + K ≤ s.size := by omega
 have hlt := wd_lt h
 rw [hK] at hlt
 have hx : (s.extract a (a + K)).data.toList = (s.data.toList.drop a).take K := by rw [ext_bs, bs_data]
 cases hm : meant ((s.data.toList.drop a).take K)
 ·have e' := nw_w (r := (s.data.toList.drop a)) (by rw [hK]; exact hm)
  rw [hK, ← ext_bs s a K] at e'
  rw [e.2, e'.2] at hT
  rw [e.2, e'.2, e.1, e'.1, endAt_n (by simp [tkStr])] at hen
  rw [hT, hen]
  exact rname_w s a K w hs hK hKs (by rw [hx, hm]; simp)
 ·have hmt : (bgn (s.extract a (a + K)).data.toList LT && meant (s.extract a (a + K)).data.toList) = true := by rw [hx, hm, hlt]; rfl
  have hdd : (s.data.toList.drop a).drop K = s.data.toList.drop (a + K) := List.drop_drop
  have cellC : bgn ((s.data.toList.drop a).drop K) [58] = false → (¬ a + K < s.size ∨ ∃ hend : a + K < s.size, s[a + K].toNat ≠ 58) → Calls Tryz.prog 44 #[.string s, .int .i64 a] w fun e w' => e = .returned (.tuple #[(.agg #[.int .i64 T.kind, .int .i64 T.at', .int .i64 T.num, .string T.str, .int .i64 T.c0, .int .i64 T.c1, .int .i64 T.r0, .int .i64 T.r1, .int .i64 T.r2, .int .i64 T.r3, .int .i64 T.code]), .int .i64 (en : Nat)]) ∧ Below w.heap.size w w' := by
   intro hc hor
   have e' := nw_c (r := (s.data.toList.drop a)) (by rw [hK]; exact hm) (by rw [hK]; exact hc)
   rw [hK, ← ext_bs s a K] at e'
   rw [e.2, e'.2] at hT
   rw [e.2, e'.2, e.1, e'.1] at hen
   unfold rdCell at hT hen
   cases hp : pB (s.extract a (a + K))
   ·rw [hp] at hT hen
    have hT' : T = tkSet (tk0 8) a := hT
    have hen' : en = a := hen
    rw [hT', hen']
    rcases hor with hend | ⟨hend, hcol⟩
    ·exact rname_cf1 s a K w hs hK hKs hmt hend hp
    ·exact rname_cf2 s a K w hs hK hKs hmt hend hcol hp
   ·rw [hp] at hT hen
    have hT' : T = tkSet (tkCell (pR (s.extract a (a + K))) (pC (s.extract a (a + K)))) a := hT
    have hen' : en = a + K := hen.trans (endAt_n (by simp [tkCell]) _ _)
    rw [hT', hen']
    rcases hor with hend | ⟨hend, hcol⟩
    ·exact rname_ct1 s a K w hs hK hKs hmt hend hp
    ·exact rname_ct2 s a K w hs hK hKs hmt hend hcol hp
  by_cases hend : a + K < s.size
  ·have hll : a + K < s.data.toList.length := by rw [← size_len]; exact hend
   have hb : bgn ((s.data.toList.drop a).drop K) [58] = [58].contains s[a + K] := by rw [hdd, bgn_dr hll, byte_at s (a + K) hend hll]
   by_cases hcol : s[a + K].toNat = 58
   ·have hc : bgn ((s.data.toList.drop a).drop K) [58] = true := by rw [hb]; have : s[a + K] = 58 := UInt8.toNat_inj.1 hcol; rw [this]; rfl
    have e' := nw_r (r := (s.data.toList.drop a)) (by rw [hK]; exact hm) (by rw [hK]; exact hc)
    have hdd2 : (s.data.toList.drop a).drop (K + 1) = s.data.toList.drop (a + K + 1) := by rw [List.drop_drop, Nat.add_assoc]
    rw [hK, hdd2] at e'
    obtain ⟨J, hJ⟩ : ∃ J, runL (s.data.toList.drop (a + K + 1)) WD = J := ⟨_, rfl⟩
    have hJl := runL_le (s.data.toList.drop (a + K + 1)) WD
    rw [List.length_drop, ← size_len, hJ] at hJl
    rw [hJ, ← ext_bs s a (K + 1 + J)] at e'
    have hass : a + (K + 1 + J) = a + K + 1 + J := by omega
    rw [hass] at e'
    rw [e.2, e'.2] at hT
    rw [e.2, e'.2, e.1, e'.1] at hen
    unfold rdRect at hT hen
    cases hq : qB (s.extract a (a + K + 1 + J))
    ·rw [hq] at hT hen
     have hT' : T = tkSet (tk0 8) a := hT
     have hen' : en = a := hen
     rw [hT', hen']
     exact rname_rf s a K w hs hK hKs hend hcol J hJ zq17 hmt hq
    ·rw [hq] at hT hen
     have hT' : T = tkSet (tkRect (qT (s.extract a (a + K + 1 + J))) (qL (s.extract a (a + K + 1 + J))) (qO (s.extract a (a + K + 1 + J))) (qR (s.extract a (a + K + 1 + J)))) a := hT
     have hen' : en = a + K + 1 + J := (hen.trans (endAt_n (by simp [tkRect]) _ _)).trans hass
     rw [hT', hen']
     exact rname_rt s a K w hs hK hKs hend hcol J hJ zq17 hmt hq
   ·have hc : bgn ((s.data.toList.drop a).drop K) [58] = false := by
     rw [hb]
     cases hz : [58].contains s[a + K]
     ·rfl
     ·have : s[a + K] = 58 := by simpa using hz
      exact absurd (by rw [this]; rfl) hcol
    exact cellC hc (.inr ⟨hend, hcol⟩)
  ·have hc : bgn ((s.data.toList.drop a).drop K) [58] = false := by rw [hdd, List.drop_of_length_le (by rw [← size_len]; omega)]; rfl
   exact cellC hc (.inl hend)
theorem csign (s : ByteArray) (a : Nat) (w : World) (hs : s.size < 4294967281) (ha : a < s.size) (h0 : bgn (s.data.toList.drop a) DG = false) (h1 : bgn (s.data.toList.drop a) [34] = false) (h2 : bgn (s.data.toList.drop a) [35] = false) (h3 : bgn (s.data.toList.drop a) LT = false) (T : Tk) (en : Nat) (hT : T = tkSet (rdT (bs (pc (s.data.toList.drop a)))) a) (hen : en = endAt (rdT (bs (pc (s.data.toList.drop a)))) a (reachL (s.data.toList.drop a))) :
  Calls Tryz.prog 45 #[.string s, .int .i64 a] w fun e w' => e = .returned (.tuple #[(.agg #[.int .i64 T.kind, .int .i64 T.at', .int .i64 T.num, .string T.str, .int .i64 T.c0, .int .i64 T.c1, .int .i64 T.r0, .int .i64 T.r1, .int .i64 T.r2, .int .i64 T.r3, .int .i64 T.code]), .int .i64 (en : Nat)]) ∧ Below w.heap.size w w' := by
 have hll : a < s.data.toList.length := by rw [← size_len]; exact ha
 have hsg : bgn (s.data.toList.drop a) SG = SG.contains s[a] := by rw [bgn_dr hll, byte_at s a ha hll]
 have hne : ¬ (s.data.toList.drop a) = [] := by rw [List.drop_eq_getElem_cons hll]; simp
 have e := nx_s hne h0 h1 h2 h3
 have one : twoL (s.data.toList.drop a) = false → (SG.contains s[a] = true ∧ T = tkSet (tkStr 7 (s.extract a (a + 1))) a ∧ en = a + 1) ∨ (SG.contains s[a] = false ∧ T = tkSet (tk0 8) a ∧ en = a) := by
  intro ht
  rw [ht, hsg] at e
  have e1 : reachL (s.data.toList.drop a) = 1 := e.1
  cases hc : SG.contains s[a]
  ·rw [hc] at e
   have e2 : (rdT (bs (pc (s.data.toList.drop a)))) = tk0 8 := e.2
   right
   exact ⟨rfl, by rw [hT, e2], by rw [hen, e2]; exact endAt_8 rfl _ _⟩
  ·rw [hc] at e
   have e2 : (rdT (bs (pc (s.data.toList.drop a)))) = tkStr 7 (bs ((s.data.toList.drop a).take 1)) := e.2
   left
   refine ⟨rfl, by rw [hT, e2, ext_bs], ?_⟩
   rw [hen, e2, e1, endAt_n (by simp [tkStr])]
 by_cases hl : a + 1 < s.size
 ·have hll2 : a + 1 < s.data.toList.length := by rw [← size_len]; exact hl
  have hr : (s.data.toList.drop a) = s.data.toList[a] :: s.data.toList[a + 1] :: s.data.toList.drop (a + 1 + 1) := by rw [List.drop_eq_getElem_cons hll, List.drop_eq_getElem_cons hll2]
  have hx : (s.extract a (a + 2)).toList = [s.data.toList[a], s.data.toList[a + 1]] := by
   rw [ByteArray.toList_eq, ext_mid2, hr, Nat.add_sub_cancel_left]; rfl
  have h2w := two_eq s.data.toList[a] s.data.toList[a + 1] (s.data.toList.drop (a + 1 + 1))
  rw [← hr, ← hx] at h2w
  cases ht : twoL (s.data.toList.drop a)
  ·have hone := one ht
   rw [ht] at h2w
   have h2w' := h2w.symm
   simp only [Bool.or_eq_false_iff] at h2w'
   exact rsign_1 s a w hs ha hl h2w'.1 h2w'.2.1 h2w'.2.2 T en hone
  ·rw [ht] at h2w e
   have hsg1 := two_sg ht
   rw [hsg1] at e
   have e1 : reachL (s.data.toList.drop a) = 2 := e.1
   have e2 : (rdT (bs (pc (s.data.toList.drop a)))) = tkStr 7 (bs ((s.data.toList.drop a).take 2)) := e.2
   rw [e2, ← ext_bs] at hT
   rw [e2, e1, endAt_n (by simp [tkStr])] at hen
   rw [hT, hen]
   exact rsign_2 s a w hs hl _ _ _ rfl rfl rfl h2w.symm
 ·have ht : twoL (s.data.toList.drop a) = false := by
   rw [List.drop_eq_getElem_cons hll, List.drop_of_length_le (by rw [← size_len]; omega)]; simp [twoL, List.isPrefixOf]
  exact rsign_e s a w hs ha hl T en (one ht)
end Go.Proofs.YtcmjhjnpcogmgaaGreatDoor
namespace Go.Proofs.YtcmjhjnpcogmgaaGreatDoor
open Go.Shelf Go.RowKit
theorem eqb_u8 (c : UInt8) (n : Nat) (k : UInt8) (hk : k.toNat = n) : ((c.toNat : Int) == (n : Int)) = [k].contains c := by
 rw [Bool.eq_iff_iff]; simp [← UInt8.toNat_inj, hk]; omega
theorem rnext (s : ByteArray) (p a : Nat) (w : World) (hs : s.size < 4294967281) (hp : p ≤ s.size) (ha : p + runL (s.data.toList.drop p) [32] = a) (T : Tk) (en : Nat) (hT : T = tkSet (rdT (bs (pc (s.data.toList.drop a)))) a) (hen : en = endAt (rdT (bs (pc (s.data.toList.drop a)))) a (reachL (s.data.toList.drop a))) :
  Calls Tryz.prog 25 #[.string s, .int .i64 p] w fun e w' => e = .returned (.tuple #[(.agg #[.int .i64 T.kind, .int .i64 T.at', .int .i64 T.num, .string T.str, .int .i64 T.c0, .int .i64 T.c1, .int .i64 T.r0, .int .i64 T.r1, .int .i64 T.r2, .int .i64 T.r3, .int .i64 T.code]), .int .i64 (en : Nat)]) ∧ Below w.heap.size w w' := by
 have HT : Hid _ := hT
 have HE : Hid _ := hen
 have HA : Hid (p + runL (s.data.toList.drop p) [32] = a) := ha
 have hal : a ≤ s.size := by have := runL_le (s.data.toList.drop p) [32]; rw [List.length_drop, ← size_len] at this; omega
 clear hT hen ha
 have mixed : Tryz.prog.follows .mixedOrders = true := by kernel_rfl
 go_enter Tryz.func25, Tryz.ntmps25
 go_wp2
 go_loopw [1] (fun v w' => ∃ i : Nat, v = .int .i64 i ∧ i ≤ s.size ∧ Hid (i + runL (s.data.toList.drop i) [32] = a) ∧ Below w.heap.size w w' ∧ Own w' w.heap.size #[.int .i64 0, .int .i64 0, .int .i64 0, .string ⟨#[]⟩, .int .i64 0, .int .i64 0, .int .i64 0, .int .i64 0, .int .i64 0, .int .i64 0, .int .i64 0]) (fun v _ => s.size - (intOf v).toNat)
 case atStart => exact ⟨p, rfl, hp, HA, bal _ _, Own.new _ _ _⟩
 case round =>
  obtain ⟨i, rfl, hi, hN, hB, o0⟩ := hrel
  have c0 := o0.cell
  have f0 := o0.fro
  have l0 := o0.lt
  clear HA
  by_cases hlt : i < s.size
  ·have hlt' : (i : Int) < s.size := by omega
   have hll : i < s.data.toList.length := by rw [← size_len]; exact hlt
   cases hx : [32].contains s[i]
   ·have e := run_no (cs := [32]) hll (by rw [byte_at s i hlt hll]; exact hx)
    obtain rfl : i = a := by have := hN.out; omega
    have hxb : ((s[i].toNat : Int) == 32) = false := by rw [← hx]; exact eqb_u8 s[i] 32 32 rfl
    have hneb : ((i : Int) == (s.size : Int)) = false := by simp; omega
    have hb := fun cs => bgn_dr hll cs
    simp only [byte_at s i hlt hll] at hb
    have hd := fun w => rdigit s[i] w
    have hl := fun w => rletter s[i] w
    clear hN e hx
    cases g0 : DG.contains s[i]
    ·rw [g0] at hd
     have k0 := (hb DG).trans g0
     cases g1 : [34].contains s[i]
     ·have k1 := (hb [34]).trans g1
      have q1 : ((s[i].toNat : Int) == 34) = false := by rw [← g1]; exact eqb_u8 s[i] 34 34 rfl
      cases g2 : [35].contains s[i]
      ·have k2 := (hb [35]).trans g2
       have q2 : ((s[i].toNat : Int) == 35) = false := by rw [← g2]; exact eqb_u8 s[i] 35 35 rfl
       cases g3 : LT.contains s[i]
       ·rw [g3] at hl
        have k3 := (hb LT).trans g3
        have hc := fun w => csign s i w hs hlt k0 k1 k2 k3 T en HT.out HE.out
        clear hb k0 k1 k2 k3 g0 g1 g2 g3 HT HE
        go_wp2_with (first | (go_at_call 39; first | (refine (hd _).mono ?_; clear hd; rintro e w1 ⟨rfl, hb⟩; have hB1 := bux w zq2 hb; have o1 := keepZ w.heap.size zq5 hb; have c0 := o1.cell; have f0 := o1.fro; have l0 := o1.lt; clear hb)) | (go_at_call 43; first | (refine (hl _).mono ?_; clear hl; rintro e w1 ⟨rfl, hb⟩; have hB1 := bux w zq2 hb; have o1 := keepZ w.heap.size zq5 hb; have c0 := o1.cell; have f0 := o1.fro; have l0 := o1.lt; clear hb)) | (go_at_call 45; first | (refine (hc _).mono ?_; clear hc; rintro e w1 ⟨rfl, hb⟩; have hB1 := bux w zq2 hb; have o1 := keepZ w.heap.size zq5 hb; have c0 := o1.cell; have f0 := o1.fro; have l0 := o1.lt; clear hb)))
        exact bodyPost_ret (v := .tuple #[(.agg #[.int .i64 T.kind, .int .i64 T.at', .int .i64 T.num, .string T.str, .int .i64 T.c0, .int .i64 T.c1, .int .i64 T.r0, .int .i64 T.r1, .int .i64 T.r2, .int .i64 T.r3, .int .i64 T.code]), .int .i64 (en : Nat)]) (by simp [results, Tryz.results25, go_sem, c0, f0, l0, tkSet]) rfl ⟨rfl, zq2⟩
       ·rw [g3] at hl
        have k3 := (hb LT).trans g3
        have hc := fun w => cname s i w hs hlt k0 k1 k2 k3 T en HT.out HE.out
        clear hb k0 k1 k2 k3 g0 g1 g2 g3 HT HE
        go_wp2_with (first | (go_at_call 39; first | (refine (hd _).mono ?_; clear hd; rintro e w1 ⟨rfl, hb⟩; have hB1 := bux w zq2 hb; have o1 := keepZ w.heap.size zq5 hb; have c0 := o1.cell; have f0 := o1.fro; have l0 := o1.lt; clear hb)) | (go_at_call 43; first | (refine (hl _).mono ?_; clear hl; rintro e w1 ⟨rfl, hb⟩; have hB1 := bux w zq2 hb; have o1 := keepZ w.heap.size zq5 hb; have c0 := o1.cell; have f0 := o1.fro; have l0 := o1.lt; clear hb)) | (go_at_call 44; first | (refine (hc _).mono ?_; clear hc; rintro e w1 ⟨rfl, hb⟩; have hB1 := bux w zq2 hb; have o1 := keepZ w.heap.size zq5 hb; have c0 := o1.cell; have f0 := o1.fro; have l0 := o1.lt; clear hb)))
        exact bodyPost_ret (v := .tuple #[(.agg #[.int .i64 T.kind, .int .i64 T.at', .int .i64 T.num, .string T.str, .int .i64 T.c0, .int .i64 T.c1, .int .i64 T.r0, .int .i64 T.r1, .int .i64 T.r2, .int .i64 T.r3, .int .i64 T.code]), .int .i64 (en : Nat)]) (by simp [results, Tryz.results25, go_sem, c0, f0, l0, tkSet]) rfl ⟨rfl, zq2⟩
      ·have k2 := (hb [35]).trans g2
       have q2 : ((s[i].toNat : Int) == 35) = true := by rw [← g2]; exact eqb_u8 s[i] 35 35 rfl
       have hc := fun w => cfault s i w hs hal k0 k1 k2 T en HT.out HE.out
       clear hb k0 k1 k2 g0 g1 g2 HT HE hl
       go_wp2_with (first | (go_at_call 39; first | (refine (hd _).mono ?_; clear hd; rintro e w1 ⟨rfl, hb⟩; have hB1 := bux w zq2 hb; have o1 := keepZ w.heap.size zq5 hb; have c0 := o1.cell; have f0 := o1.fro; have l0 := o1.lt; clear hb)) | (go_at_call 43; first | (refine (hl _).mono ?_; clear hl; rintro e w1 ⟨rfl, hb⟩; have hB1 := bux w zq2 hb; have o1 := keepZ w.heap.size zq5 hb; have c0 := o1.cell; have f0 := o1.fro; have l0 := o1.lt; clear hb)) | (go_at_call 42; first | (refine (hc _).mono ?_; clear hc; rintro e w1 ⟨rfl, hb⟩; have hB1 := bux w zq2 hb; have o1 := keepZ w.heap.size zq5 hb; have c0 := o1.cell; have f0 := o1.fro; have l0 := o1.lt; clear hb)))
       exact bodyPost_ret (v := .tuple #[(.agg #[.int .i64 T.kind, .int .i64 T.at', .int .i64 T.num, .string T.str, .int .i64 T.c0, .int .i64 T.c1, .int .i64 T.r0, .int .i64 T.r1, .int .i64 T.r2, .int .i64 T.r3, .int .i64 T.code]), .int .i64 (en : Nat)]) (by simp [results, Tryz.results25, go_sem, c0, f0, l0, tkSet]) rfl ⟨rfl, zq2⟩
     ·have k1 := (hb [34]).trans g1
      have q1 : ((s[i].toNat : Int) == 34) = true := by rw [← g1]; exact eqb_u8 s[i] 34 34 rfl
      have hc := fun w => cquoted s i w hs hlt k0 k1 T en HT.out HE.out
      clear hb k0 k1 g0 g1 HT HE hl
      go_wp2_with (first | (go_at_call 39; first | (refine (hd _).mono ?_; clear hd; rintro e w1 ⟨rfl, hb⟩; have hB1 := bux w zq2 hb; have o1 := keepZ w.heap.size zq5 hb; have c0 := o1.cell; have f0 := o1.fro; have l0 := o1.lt; clear hb)) | (go_at_call 43; first | (refine (hl _).mono ?_; clear hl; rintro e w1 ⟨rfl, hb⟩; have hB1 := bux w zq2 hb; have o1 := keepZ w.heap.size zq5 hb; have c0 := o1.cell; have f0 := o1.fro; have l0 := o1.lt; clear hb)) | (go_at_call 41; first | (refine (hc _).mono ?_; clear hc; rintro e w1 ⟨rfl, hb⟩; have hB1 := bux w zq2 hb; have o1 := keepZ w.heap.size zq5 hb; have c0 := o1.cell; have f0 := o1.fro; have l0 := o1.lt; clear hb)))
      exact bodyPost_ret (v := .tuple #[(.agg #[.int .i64 T.kind, .int .i64 T.at', .int .i64 T.num, .string T.str, .int .i64 T.c0, .int .i64 T.c1, .int .i64 T.r0, .int .i64 T.r1, .int .i64 T.r2, .int .i64 T.r3, .int .i64 T.code]), .int .i64 (en : Nat)]) (by simp [results, Tryz.results25, go_sem, c0, f0, l0, tkSet]) rfl ⟨rfl, zq2⟩
    ·rw [g0] at hd
     have k0 := (hb DG).trans g0
     have hc := fun w => cnum s i w hs hal k0 T en HT.out HE.out
     clear hb k0 g0 HT HE hl
     go_wp2_with (first | (go_at_call 39; first | (refine (hd _).mono ?_; clear hd; rintro e w1 ⟨rfl, hb⟩; have hB1 := bux w zq2 hb; have o1 := keepZ w.heap.size zq5 hb; have c0 := o1.cell; have f0 := o1.fro; have l0 := o1.lt; clear hb)) | (go_at_call 43; first | (refine (hl _).mono ?_; clear hl; rintro e w1 ⟨rfl, hb⟩; have hB1 := bux w zq2 hb; have o1 := keepZ w.heap.size zq5 hb; have c0 := o1.cell; have f0 := o1.fro; have l0 := o1.lt; clear hb)) | (go_at_call 40; first | (refine (hc _).mono ?_; clear hc; rintro e w1 ⟨rfl, hb⟩; have hB1 := bux w zq2 hb; have o1 := keepZ w.heap.size zq5 hb; have c0 := o1.cell; have f0 := o1.fro; have l0 := o1.lt; clear hb)))
     exact bodyPost_ret (v := .tuple #[(.agg #[.int .i64 T.kind, .int .i64 T.at', .int .i64 T.num, .string T.str, .int .i64 T.c0, .int .i64 T.c1, .int .i64 T.r0, .int .i64 T.r1, .int .i64 T.r2, .int .i64 T.r3, .int .i64 T.code]), .int .i64 (en : Nat)]) (by simp [results, Tryz.results25, go_sem, c0, f0, l0, tkSet]) rfl ⟨rfl, zq2⟩
   ·have e := run_yes (cs := [32]) hll (by rw [byte_at s i hlt hll]; exact hx)
    have HN : Hid (i + 1 + runL (s.data.toList.drop (i + 1)) [32] = a) := by show _ = _; have := hN.out; omega
    have hxb : ((s[i].toNat : Int) == 32) = true := by rw [← hx]; exact eqb_u8 s[i] 32 32 rfl
    clear hN e hx HT HE
    go_wp2
    exact ⟨⟨i + 1, by go_num, zq17, HN, zq15, zq15⟩, by simp [intOf]; omega⟩
  ·have hlt' : ¬ (i : Int) < s.size := by omega
   have e := run_out (cs := [32]) (l := s.data.toList) (i := i) (by rw [← size_len]; exact hlt)
   have hia : i = a := by have := hN.out; omega
   obtain rfl : i = s.size := by omega
   subst hia
   have ed : s.data.toList.drop s.size = [] := List.drop_of_length_le (by rw [← size_len]; omega)
   obtain ⟨rfl, rfl⟩ : T = tkSet (tk0 0) s.size ∧ en = s.size := by
    have h1 := HT.out
    have h2 := HE.out
    rw [ed, nx_end] at h1 h2
    exact ⟨h1, h2⟩
   clear hN e HT HE ed
   go_wp2
   exact bodyPost_ret (v := .tuple #[(.agg #[.int .i64 (tkSet (tk0 0) s.size).kind, .int .i64 (tkSet (tk0 0) s.size).at', .int .i64 (tkSet (tk0 0) s.size).num, .string (tkSet (tk0 0) s.size).str, .int .i64 (tkSet (tk0 0) s.size).c0, .int .i64 (tkSet (tk0 0) s.size).c1, .int .i64 (tkSet (tk0 0) s.size).r0, .int .i64 (tkSet (tk0 0) s.size).r1, .int .i64 (tkSet (tk0 0) s.size).r2, .int .i64 (tkSet (tk0 0) s.size).r3, .int .i64 (tkSet (tk0 0) s.size).code]), .int .i64 (s.size : Nat)]) (by simp [results, Tryz.results25, go_sem, c0, f0, l0, tk0, tkSet]) rfl ⟨rfl, zq2⟩
end Go.Proofs.YtcmjhjnpcogmgaaGreatDoor
namespace Go.Proofs.YtcmjhjnpcogmgaaGreatDoor
open Go.RowKit
def restT (f : Nat) (l : List UInt8) (n : Nat) : List Tk := cutW ((pcs f l n).map tkAt)
theorem dropB_at (l : List UInt8) : dropB l = l.drop (runL l [32]) := by
 have h := List.takeWhile_append_dropWhile (p := ([32].contains ·)) (l := l)
 have h2 := congrArg (List.drop (runL l [32])) h
 unfold runL at h2
 rw [List.drop_left] at h2
 exact h2
theorem rest_step (s : ByteArray) (p f a : Nat) (T : Tk) (en : Nat) (hp : p ≤ s.size) (ha : p + runL (s.data.toList.drop p) [32] = a) (hT : T = tkSet (rdT (bs (pc (s.data.toList.drop a)))) a) (hen : en = endAt (rdT (bs (pc (s.data.toList.drop a)))) a (reachL (s.data.toList.drop a))) :
  restT (f + 1) (s.data.toList.drop p) s.size = T :: (if T.kind = 0 ∨ T.kind = 8 then [] else restT f (s.data.toList.drop en) s.size) ∧ (¬ (T.kind = 0 ∨ T.kind = 8) → p < en ∧ en ≤ s.size) := by
 have hd : dropB (s.data.toList.drop p) = s.data.toList.drop a := by rw [dropB_at, List.drop_drop, ha]
 have hal : a ≤ s.size := by have := runL_le (s.data.toList.drop p) [32]; rw [List.length_drop, ← size_len] at this; omega
 have hpa : p ≤ a := by omega
 have hlen : (s.data.toList.drop a).length = s.size - a := by rw [List.length_drop, ← size_len]
 have hna : s.size - (s.data.toList.drop a).length = a := by rw [hlen]; omega
 have hta : tkAt (a, pc (s.data.toList.drop a)) = T := by rw [hT]; rfl
 have hk : T.kind = (rdT (bs (pc (s.data.toList.drop a)))).kind := by rw [hT]; rfl
 have hpc : (s.data.toList.drop a).take (reachL (s.data.toList.drop a)) = pc (s.data.toList.drop a) := rfl
 have hrl := reachL_le (s.data.toList.drop a)
 rw [hlen] at hrl
 unfold restT
 rw [pcs_succ, hd, hna, hpc, List.map_cons, cutW, hta]
 by_cases h8 : T.kind = 8
 ·rw [if_pos h8, if_pos (Or.inr h8)]
  exact ⟨rfl, fun h => absurd (Or.inr h8) h⟩
 ·rw [if_neg h8]
  by_cases h0 : pc (s.data.toList.drop a) = []
  ·have hk0 : T.kind = 0 := by rw [hk, h0, rdT_bs]; rfl
   rw [if_pos h0, if_pos (Or.inl hk0)]
   exact ⟨rfl, fun h => absurd (Or.inl hk0) h⟩
  ·have hk0 : ¬ T.kind = 0 := fun h => h0 (end_is _ (by rw [← hk]; exact h))
   have hno : ¬ (T.kind = 0 ∨ T.kind = 8) := by rintro (h | h) <;> contradiction
   have hen' : en = a + reachL (s.data.toList.drop a) := by rw [hen]; unfold endAt; rw [if_neg (by rw [← hk]; exact h8)]
   have hne : s.data.toList.drop a ≠ [] := fun h => h0 ((take_nil_iff _).2 h)
   have hpos := reachL_pos hne
   rw [if_neg h0, if_neg hno, hen', List.drop_drop]
   exact ⟨rfl, fun _ => ⟨zq17, zq17⟩⟩
theorem rest_all (s : ByteArray) (h : isF s = true) : restT s.size (s.data.toList.drop 1) s.size = toks s := by
 unfold toks restT pcsOf; rw [h]; rfl
end Go.Proofs.YtcmjhjnpcogmgaaGreatDoor
namespace Go.Proofs.YtcmjhjnpcogmgaaGreatDoor
open Go.Shelf Go.RowKit
theorem infoT : (Tryz.prog.info? 43).map (fun i => (i.zero, i.size, i.bytes)) = some (some (.agg #[.int .i64 0, .int .i64 0, .int .i64 0, .string ⟨#[]⟩, .int .i64 0, .int .i64 0, .int .i64 0, .int .i64 0, .int .i64 0, .int .i64 0, .int .i64 0]), 11, 96) := by kernel_rfl
theorem news_new (W : World) (t : Tk) (T : TypeId) : ∀ (j : Nat) (u : Value), t.cells.toList[j]? = some u → (W.alloc (.cells t.cells T)).cell? ((⟨W.heap.size, 0, none⟩ : Addr).add j) = some u := fun j u h => by
 have h1 := (Own.new W t.cells T).cell j
 have e : ((⟨W.heap.size, 0, none⟩ : Addr).add j) = ⟨W.heap.size, j, none⟩ := by simp [Addr.add]; omega
 rw [e, h1]
 simpa using h
theorem one_cells (t : Tk) : ∀ u ∈ t.cells.toList, u.oneCell' = true := by
 intro u hu
 simp [Tk.cells] at hu
 rcases hu with h | h | h | h | h | h | h | h | h | h | h <;> (subst h; rfl)
end Go.Proofs.YtcmjhjnpcogmgaaGreatDoor
namespace Go.Proofs.YtcmjhjnpcogmgaaGreatDoor
open Go.Shelf Go.RowKit
theorem news_new2 (W : World) (t : Tk) (o : Obj) (T : TypeId) : ∀ (j : Nat) (u : Value), t.cells.toList[j]? = some u → ((W.alloc o).alloc (.cells t.cells T)).cell? ((⟨W.heap.size + 1, 0, none⟩ : Addr).add j) = some u := by
 have h := news_new (W.alloc o) t T
 rw [World.size_alloc] at h
 exact h
theorem row2 {W : World} {base : Nat} {v : Value} {ts : List Tk} (h : IsTs W base v ts) (T : Tk) : ((W.alloc (.cells T.cells 43)).alloc (.cells T.cells 43)).ownsRow base 43 11 v ts.length (flat ts) :=
 World.ownsRow.alloc (World.ownsRow.alloc h _) _
theorem app_T {w w1 w3 : World} {v v' : Value} {ts : List Tk} {T : Tk} (hB : Below w.heap.size w w1) (h : IsTs w1 w.heap.size v ts) (ho : w3.ownsRow w.heap.size 43 11 v' (ts.length + 1) (flat ts ++ T.cells.toList))
  (hg : ((w1.alloc (.cells T.cells 43)).alloc (.cells T.cells 43)).grownBy w3 v.ownBlock) : IsTs w3 w.heap.size v' (ts ++ [T]) ∧ Below w.heap.size w w3 ∧ Own w3 w1.heap.size T.cells := by
 refine ⟨?_, ?_, ?_⟩
 ·unfold IsTs; rw [flat_snoc, List.length_append]; exact ho
 ·have b1 := hB.alloc hB.size (.cells T.cells 43)
  have b2 := b1.alloc b1.size (.cells T.cells 43)
  exact Below.grown b2 hg b2.size (fun k hk => (h.lt k hk).1)
 ·have o1 : Own (w1.alloc (.cells T.cells 43)) w1.heap.size T.cells := Own.new _ _ _
  refine (o1.of_block (Below.heap_alloc _ _ _ ?_)).of_block (hg.block _ ?_ ?_)
  ·rw [World.size_alloc]; omega
  ·rw [World.size_alloc, World.size_alloc]; omega
  ·intro e; have := (h.lt _ e.symm).2; omega
theorem rlex_y (s : ByteArray) (w : World) (hs : s.size ≤ 1048576) (hF : isF s = true) (h1 : 1 ≤ s.size) (hz : (s.toList == []) = false) (h61 : ((s[0].toNat : Int) != 61) = false) :
  Calls Tryz.prog 14 #[.string s] w fun e w' => ∃ v, e = .returned v ∧ IsTs w' w.heap.size v (toks s) ∧ Below w.heap.size w w' := by
 obtain ⟨i0, hi, hz0, hz1, hz2⟩ := info_parts infoT
 have HI : Hid _ := hi
 have HZ0 : Hid _ := hz0
 have HZ1 : Hid _ := hz1
 have HZ2 : Hid _ := hz2
 clear hi hz0 hz1 hz2
 have HF : Hid (isF s = true) := hF
 clear hF
 have h1' : (1 : Int) ≤ s.size := by omega
 have h0' : (0 : Int) < s.size := by omega
 go_enter Tryz.func14, Tryz.ntmps14
 go_wp2
 go_loopw [3, 4] (fun v x w' => ∃ (p k : Nat) (ts : List Tk), x = .int .i64 p ∧ p ≤ s.size ∧ ts.length < p ∧ Hid (s.size - p < k) ∧ Hid (ts ++ restT k (s.data.toList.drop p) s.size = toks s) ∧ IsTs w' w.heap.size v ts ∧ Below w.heap.size w w') (fun _ x _ => s.size - (intOf x).toNat)
 case atStart => exact ⟨1, s.size, [], rfl, h1, by simp, (by omega : s.size - 1 < s.size), (rest_all s HF.out), ⟨rfl, .inl ⟨rfl, rfl⟩⟩, Below.refl _ _⟩
 case round =>
  obtain ⟨p, k, ts, rfl, hp, hts, hk, hN, hrow, hB⟩ := hrel
  obtain ⟨k', rfl⟩ : ∃ k', k = k' + 1 := ⟨k - 1, by have := hk.out; omega⟩
  obtain ⟨a, ha⟩ : ∃ a, p + runL (s.data.toList.drop p) [32] = a := ⟨_, rfl⟩
  obtain ⟨T, hT⟩ : ∃ T, T = tkSet (rdT (bs (pc (s.data.toList.drop a)))) a := ⟨_, rfl⟩
  obtain ⟨en, hen⟩ : ∃ en, en = endAt (rdT (bs (pc (s.data.toList.drop a)))) a (reachL (s.data.toList.drop a)) := ⟨_, rfl⟩
  have hnx := fun w => rnext s p a w zq17 hp ha T en hT hen
  have hst := rest_step s p k' a T en hp ha hT hen
  have hN' := hN.out
  rw [hst.1] at hN'
  have hst2 := hst.2
  clear hT hen ha hN hst
  by_cases hk0 : T.kind = 0
  ·rw [if_pos (Or.inl hk0)] at hN'
   have HN : Hid (ts ++ [T] = toks s) := hN'
   have b0 : (T.kind == 0) = true := by simpa using hk0
   clear hN' hst2 hk0 HF hk hz
   go_wp2_with (first | (go_at_call 25; refine (hnx _).mono ?_; clear hnx; rintro e w1 ⟨rfl, hb⟩; have hB1 : Below w.heap.size w w1 := bup hB hb; have hr1 := hrow.keep hb; clear hb) | (at_builtin; refine wpList_append_own _ rfl _ _ 35 rfl w.heap.size 43 i0 _ 11 96 Tryz.underlying35 HI.out HZ0.out HZ1.out HZ2.out rfl zq16 _ ts.length (flat ts) rfl (row2 hr1 T) ⟨w1.heap.size + 1, 0, none⟩ 1 1 T.cells.toList rfl rfl (news_new2 w1 T _ _) (one_cells T) (by unfold maxLen; omega) zq17 (by have := hB1.size; simp; omega) ?_; intro v' w3 hown' hgrow _; have hW := app_T hB1 hr1 hown' hgrow; clear hown' hgrow; have c3 : w3.cell? ⟨w1.heap.size, 0, none⟩ = some (.int .i64 T.kind) := (hW.2.2.cell 0).trans rfl; have f3 := hW.2.2.fro; have l3 := hW.2.2.lt))
   go_ret
   exact ⟨v', rfl, by rw [← HN.out]; exact hW.1, hW.2.1⟩
  ·have b0 : (T.kind == 0) = false := by simpa using hk0
   by_cases hk8 : T.kind = 8
   ·rw [if_pos (Or.inr hk8)] at hN'
    have HN : Hid (ts ++ [T] = toks s) := hN'
    have b8 : (T.kind == 8) = true := by simpa using hk8
    clear hN' hst2 hk0 hk8 HF hk hz
    go_wp2_with (first | (go_at_call 25; refine (hnx _).mono ?_; clear hnx; rintro e w1 ⟨rfl, hb⟩; have hB1 : Below w.heap.size w w1 := bup hB hb; have hr1 := hrow.keep hb; clear hb) | (at_builtin; refine wpList_append_own _ rfl _ _ 35 rfl w.heap.size 43 i0 _ 11 96 Tryz.underlying35 HI.out HZ0.out HZ1.out HZ2.out rfl zq16 _ ts.length (flat ts) rfl (row2 hr1 T) ⟨w1.heap.size + 1, 0, none⟩ 1 1 T.cells.toList rfl rfl (news_new2 w1 T _ _) (one_cells T) (by unfold maxLen; omega) zq17 (by have := hB1.size; simp; omega) ?_; intro v' w3 hown' hgrow _; have hW := app_T hB1 hr1 hown' hgrow; clear hown' hgrow; have c3 : w3.cell? ⟨w1.heap.size, 0, none⟩ = some (.int .i64 T.kind) := (hW.2.2.cell 0).trans rfl; have f3 := hW.2.2.fro; have l3 := hW.2.2.lt))
    go_ret
    exact ⟨v', rfl, by rw [← HN.out]; exact hW.1, hW.2.1⟩
   ·have hno : ¬ (T.kind = 0 ∨ T.kind = 8) := by rintro (h | h) <;> contradiction
    rw [if_neg hno] at hN'
    have hpe := hst2 hno
    have hk2 : Hid (s.size - en < k') := by show _ < _; have := hk.out; omega
    have HN : Hid ((ts ++ [T]) ++ restT k' (s.data.toList.drop en) s.size = toks s) := by show _ = _; rw [List.append_assoc]; exact hN'
    have b8 : (T.kind == 8) = false := by simpa using hk8
    clear hN' hst2 hk0 hk8 HF hk hz hno
    go_wp2_with (first | (go_at_call 25; refine (hnx _).mono ?_; clear hnx; rintro e w1 ⟨rfl, hb⟩; have hB1 : Below w.heap.size w w1 := bup hB hb; have hr1 := hrow.keep hb; clear hb) | (at_builtin; refine wpList_append_own _ rfl _ _ 35 rfl w.heap.size 43 i0 _ 11 96 Tryz.underlying35 HI.out HZ0.out HZ1.out HZ2.out rfl zq16 _ ts.length (flat ts) rfl (row2 hr1 T) ⟨w1.heap.size + 1, 0, none⟩ 1 1 T.cells.toList rfl rfl (news_new2 w1 T _ _) (one_cells T) (by unfold maxLen; omega) zq17 (by have := hB1.size; simp; omega) ?_; intro v' w3 hown' hgrow _; have hW := app_T hB1 hr1 hown' hgrow; clear hown' hgrow; have c3 : w3.cell? ⟨w1.heap.size, 0, none⟩ = some (.int .i64 T.kind) := (hW.2.2.cell 0).trans rfl; have f3 := hW.2.2.fro; have l3 := hW.2.2.lt))
    go_roundw
    case rel => exact ⟨en, k', ts ++ [T], rfl, hpe.2, by rw [List.length_append, List.length_singleton]; omega, hk2, HN, hW.1, hW.2.1⟩
    case measure => simp [intOf]; omega
theorem IsTs.one (W : World) (base : Nat) (T : Tk) (h : base ≤ W.heap.size) : IsTs (W.alloc (.cells T.cells 43)) base (.slice (some ⟨W.heap.size, 0, none⟩) 1 1) [T] := by
 refine ⟨rfl, .inr ⟨W.heap.size, 1, T.cells, rfl, h, World.alloc_heap_new _ _, Nat.le_refl _, by unfold maxLen; omega, rfl, ?_⟩⟩
 simp [flat, Tk.cells]
theorem rlex_e (s : ByteArray) (w : World) (hz : (s.toList == []) = true) :
  Calls Tryz.prog 14 #[.string s] w fun e w' => ∃ v, e = .returned v ∧ IsTs w' w.heap.size v [tk0 8] ∧ Below w.heap.size w w' := by
 go_enter Tryz.func14, Tryz.ntmps14
 go_wp2
 go_ret
 exact ⟨_, rfl, IsTs.one w w.heap.size (tk0 8) (Nat.le_refl _), bal _ _⟩
theorem rlex_n (s : ByteArray) (w : World) (h1 : 0 < s.size) (hz : (s.toList == []) = false) (h61 : ((s[0].toNat : Int) != 61) = true) :
  Calls Tryz.prog 14 #[.string s] w fun e w' => ∃ v, e = .returned v ∧ IsTs w' w.heap.size v [tk0 8] ∧ Below w.heap.size w w' := by
 have h0' : (0 : Int) < s.size := by omega
 go_enter Tryz.func14, Tryz.ntmps14
 go_wp2
 go_ret
 exact ⟨_, rfl, IsTs.one w w.heap.size (tk0 8) (Nat.le_refl _), bal _ _⟩
theorem rlex (s : ByteArray) (w : World) (hs : s.size ≤ 1048576) :
  Calls Tryz.prog 14 #[.string s] w fun e w' => ∃ v, e = .returned v ∧ IsTs w' w.heap.size v (toks s) ∧ Below w.heap.size w w' := by
 have hl : s.toList = s.data.toList := ByteArray.toList_eq s
 by_cases h0 : 0 < s.size
 ·have hll : 0 < s.data.toList.length := by rw [← size_len]; exact h0
  have hc : s.data.toList = s[0] :: s.data.toList.drop 1 := by
   have h := List.drop_eq_getElem_cons hll
   rw [byte_at s 0 h0 hll] at h
   exact h
  have hz : (s.toList == []) = false := by rw [hl, hc]; rfl
  have hi : isF s = ((61 : UInt8) == s[0]) := by unfold isF; rw [hc]; simp [List.isPrefixOf]
  by_cases h61 : s[0].toNat = 61
  ·have e : s[0] = 61 := UInt8.toNat_inj.1 h61
   refine rlex_y s w hs (by rw [hi, e]; rfl) h0 hz (by rw [h61]; rfl)
  ·have hF : isF s = false := by
    rw [hi]
    cases h : ((61 : UInt8) == s[0])
    ·rfl
    ·have h' : (61 : UInt8) = s[0] := by simpa using h
     exact absurd (by rw [← h']; rfl) h61
   have et : toks s = [tk0 8] := by unfold toks; rw [hF]; rfl
   rw [et]
   exact rlex_n s w h0 hz (by simp; omega)
 ·have hn : s.data.toList = [] := List.length_eq_zero_iff.1 (by rw [← size_len]; omega)
  have hF : isF s = false := by unfold isF; rw [hn]; rfl
  have et : toks s = [tk0 8] := by unfold toks; rw [hF]; rfl
  rw [et]
  exact rlex_e s w (by rw [hl, hn]; rfl)
end Go.Proofs.YtcmjhjnpcogmgaaGreatDoor
