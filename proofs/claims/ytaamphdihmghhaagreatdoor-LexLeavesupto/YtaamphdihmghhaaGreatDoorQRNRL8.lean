/- Which token stands first in a text, told by its first byte, in plain lists. No walk. · What each of the document's readers answers at a place, told by the byte that stands there: the first token of what is left. New memory alone is made. The condition: a text of less than 4294967281 bytes. -/
import Derived.Test.YtaamphdihmghhaaGreatDoorQRL6RQ
import Derived.Test.YtaamphdihmghhaaGreatDoorQLI
import Derived.Test.YtaamphdihmghhaaGreatDoorQRL5
import Derived.Test.YtaamphdihmghhaaGreatDoorQRL7
namespace Go.Proofs.YtaamphdihmghhaaGreatDoor
open Go.RowKit
set_option linter.all false
theorem bgn_take {r : List UInt8} {k : Nat} (hk : 1 ≤ k) (cs : List UInt8) : bgn (r.take k) cs = bgn r cs := by
  cases r with
  | nil => simp
  | cons c t => obtain ⟨j, rfl⟩ : ∃ j, k = j + 1 := ⟨k - 1, by omega⟩; rfl
theorem bgn_nil {r cs : List UInt8} (h : bgn r cs = true) : ¬ r = [] := by rintro rfl; simp [bgn] at h
theorem take_ne {r : List UInt8} {k : Nat} (hk : 1 ≤ k) (hr : ¬ r = []) : ¬ r.take k = [] := by
  cases r with
  | nil => exact absurd rfl hr
  | cons c t => obtain ⟨j, rfl⟩ : ∃ j, k = j + 1 := ⟨k - 1, by omega⟩; simp
theorem rdT_bs (p : List UInt8) : rdT (bs p) = if p = [] then tk0 0 else if bgn p DG then rdNum (bs p) else if bgn p [34] then rdQ p else if bgn p [35] then rdF (bs p) else if bgn p LT then rdW (bs p) else if bgn p SG then tkStr 7 (bs p) else tk0 8 := by
  unfold rdT; rw [bs_data]
/-- The piece at the beginning of what is left. -/
def pc (r : List UInt8) : List UInt8 := r.take (reachL r)
theorem pc_len (r : List UInt8) : (pc r).length = reachL r := by unfold pc; rw [List.length_take]; have := reachL_le r; omega
theorem nx_end : rdT (bs (pc [])) = tk0 0 := by rw [rdT_bs]; rfl
theorem nx_num {r : List UInt8} (h : bgn r DG = true) : reachL r = runL r NB ∧ rdT (bs (pc r)) = rdNum (bs (r.take (runL r NB))) := by
  have e : reachL r = runL r NB := by unfold reachL; rw [if_neg (bgn_nil h), if_pos h]
  have hp := reachL_pos (bgn_nil h)
  refine ⟨e, ?_⟩
  rw [pc, rdT_bs, if_neg (take_ne hp (bgn_nil h)), bgn_take hp, if_pos h, e]
theorem nx_q {r : List UInt8} (h0 : bgn r DG = false) (h : bgn r [34] = true) : reachL r = 1 + qrL (r.drop 1) ∧ rdT (bs (pc r)) = if qok (r.drop 1) then tkStr 2 (bs (qtx (r.drop 1))) else tk0 8 := by
  have e : reachL r = 1 + qrL (r.drop 1) := by unfold reachL; rw [if_neg (bgn_nil h), if_neg (by rw [h0]; simp), if_pos h]
  have hp := reachL_pos (bgn_nil h)
  refine ⟨e, ?_⟩
  rw [pc, rdT_bs, if_neg (take_ne hp (bgn_nil h)), bgn_take hp, if_neg (by rw [h0]; simp), bgn_take hp, if_pos h, e, ← rdQ_is]
  cases r with
  | nil => simp [bgn] at h
  | cons c t =>
    have hc : c = 34 := by simpa [bgn] using h
    subst hc
    rw [Nat.add_comm, List.take_succ_cons]
    rfl
theorem nx_f {r : List UInt8} (h0 : bgn r DG = false) (h1 : bgn r [34] = false) (h : bgn r [35] = true) : reachL r = frL r ∧ rdT (bs (pc r)) = rdF (bs (r.take (frL r))) := by
  have e : reachL r = frL r := by unfold reachL; rw [if_neg (bgn_nil h), if_neg (by rw [h0]; simp), if_neg (by rw [h1]; simp), if_pos h]
  have hp := reachL_pos (bgn_nil h)
  refine ⟨e, ?_⟩
  rw [pc, rdT_bs, if_neg (take_ne hp (bgn_nil h)), bgn_take hp, if_neg (by rw [h0]; simp), bgn_take hp, if_neg (by rw [h1]; simp), bgn_take hp, if_pos h, e]
theorem nx_w {r : List UInt8} (h0 : bgn r DG = false) (h1 : bgn r [34] = false) (h2 : bgn r [35] = false) (h : bgn r LT = true) : reachL r = wrL r ∧ rdT (bs (pc r)) = rdW (bs (r.take (wrL r))) := by
  have e : reachL r = wrL r := by unfold reachL; rw [if_neg (bgn_nil h), if_neg (by rw [h0]; simp), if_neg (by rw [h1]; simp), if_neg (by rw [h2]; simp), if_pos h]
  have hp := reachL_pos (bgn_nil h)
  refine ⟨e, ?_⟩
  rw [pc, rdT_bs, if_neg (take_ne hp (bgn_nil h)), bgn_take hp, if_neg (by rw [h0]; simp), bgn_take hp, if_neg (by rw [h1]; simp), bgn_take hp, if_neg (by rw [h2]; simp), bgn_take hp, if_pos h, e]
theorem nx_s {r : List UInt8} (hr : ¬ r = []) (h0 : bgn r DG = false) (h1 : bgn r [34] = false) (h2 : bgn r [35] = false) (h3 : bgn r LT = false) : reachL r = (if twoL r then 2 else 1) ∧ rdT (bs (pc r)) = if bgn r SG then tkStr 7 (bs (r.take (if twoL r then 2 else 1))) else tk0 8 := by
  have e : reachL r = if twoL r then 2 else 1 := by unfold reachL; rw [if_neg hr, if_neg (by rw [h0]; simp), if_neg (by rw [h1]; simp), if_neg (by rw [h2]; simp), if_neg (by rw [h3]; simp)]
  have hp := reachL_pos hr
  refine ⟨e, ?_⟩
  rw [pc, rdT_bs, if_neg (take_ne hp hr), bgn_take hp, if_neg (by rw [h0]; simp), bgn_take hp, if_neg (by rw [h1]; simp), bgn_take hp, if_neg (by rw [h2]; simp), bgn_take hp, if_neg (by rw [h3]; simp), bgn_take hp, e]
theorem two_sg {r : List UInt8} (h : twoL r = true) : bgn r SG = true := by
  match r with
  | [] => simp [twoL] at h
  | [a] => simp [twoL] at h
  | a :: b :: t =>
    simp only [twoL, List.isPrefixOf, Bool.or_eq_true, Bool.and_eq_true, beq_iff_eq, and_true] at h
    rcases h with ⟨h, _⟩ | ⟨h, _⟩ | ⟨h, _⟩ <;> (subst h; rfl)
theorem two_eq (c d : UInt8) (t : List UInt8) : twoL (c :: d :: t) = ((([c, d] : List UInt8) == [60, 62]) || ((([c, d] : List UInt8) == [60, 61]) || (([c, d] : List UInt8) == [62, 61]))) := by
  rw [Bool.eq_iff_iff]
  simp [twoL, List.isPrefixOf]
  constructor <;> (rintro (⟨h, g⟩ | ⟨h, g⟩ | ⟨h, g⟩) <;> simp [h, g])
theorem wd_col (r : List UInt8) : ¬ (58 : UInt8) ∈ r.take (runL r WD) := by
  have e : r.take (runL r WD) = r.takeWhile (WD.contains ·) := by
    unfold runL
    have h := List.takeWhile_append_dropWhile (p := (WD.contains ·)) (l := r)
    have h2 := congrArg (List.take (r.takeWhile (WD.contains ·)).length) h
    rw [List.take_left] at h2
    exact h2.symm
  rw [e]
  intro hm
  have h := List.all_takeWhile (p := (WD.contains ·)) (l := r)
  have := List.all_eq_true.1 h _ hm
  exact absurd this (by decide)
theorem wd_lt {r : List UInt8} (h : bgn r LT = true) : bgn (r.take (runL r WD)) LT = true := by
  rw [bgn_take (runL_pos (bgn_imp h LT_WD))]; exact h
theorem rdW_bs (p : List UInt8) : rdW (bs p) = if decide (0 ≤ Lib.indexByte p 58) then rdRect (bs p) else if meant p then rdCell (bs p) else tkStr 3 (bs p) := by
  unfold rdW; rw [bs_data]
theorem nw_w {r : List UInt8} (hm : meant (r.take (runL r WD)) = false) : wrL r = runL r WD ∧ rdW (bs (r.take (wrL r))) = tkStr 3 (bs (r.take (runL r WD))) := by
  have e : wrL r = runL r WD := by unfold wrL; rw [hm]; rfl
  refine ⟨e, ?_⟩
  rw [e, rdW_bs, if_neg (by rw [decide_eq_true_eq, idx_mem]; exact wd_col r), hm]; rfl
theorem nw_c {r : List UInt8} (hm : meant (r.take (runL r WD)) = true) (hc : bgn (r.drop (runL r WD)) [58] = false) : wrL r = runL r WD ∧ rdW (bs (r.take (wrL r))) = rdCell (bs (r.take (runL r WD))) := by
  have e : wrL r = runL r WD := by unfold wrL; rw [hm, hc]; rfl
  refine ⟨e, ?_⟩
  rw [e, rdW_bs, if_neg (by rw [decide_eq_true_eq, idx_mem]; exact wd_col r), hm]; rfl
theorem nw_r {r : List UInt8} (hm : meant (r.take (runL r WD)) = true) (hc : bgn (r.drop (runL r WD)) [58] = true) : wrL r = runL r WD + 1 + runL (r.drop (runL r WD + 1)) WD ∧ rdW (bs (r.take (wrL r))) = rdRect (bs (r.take (runL r WD + 1 + runL (r.drop (runL r WD + 1)) WD))) := by
  have e : wrL r = runL r WD + 1 + runL (r.drop (runL r WD + 1)) WD := by unfold wrL; rw [hm, hc]; rfl
  refine ⟨e, ?_⟩
  rw [e, rdW_bs, if_pos]
  rw [decide_eq_true_eq, idx_mem]
  obtain ⟨t, ht⟩ : ∃ t, r.drop (runL r WD) = 58 :: t := by
    cases hd : r.drop (runL r WD) with
    | nil => rw [hd] at hc; simp [bgn] at hc
    | cons c t => rw [hd] at hc; have : c = 58 := by simpa [bgn] using hc
                  exact ⟨t, by rw [this]⟩
  have hx : r[runL r WD]? = some 58 := by rw [← List.head?_drop, ht]; rfl
  rw [List.mem_iff_getElem?]
  exact ⟨runL r WD, by rw [List.getElem?_take, if_pos (by omega)]; exact hx⟩
theorem ite8 {c : Prop} [Decidable c] {x y : Tk} (hx : x.kind = 8 → x = tk0 8) (hy : y.kind = 8 → y = tk0 8) : (if c then x else y).kind = 8 → (if c then x else y) = tk0 8 := by split <;> assumption
theorem no8 {x : Tk} (h : ¬ x.kind = 8) : x.kind = 8 → x = tk0 8 := fun e => absurd e h
/-- What is wrong is nothing else. -/
theorem wrong_is (s : ByteArray) : (rdT s).kind = 8 → rdT s = tk0 8 := by
  unfold rdT rdNum rdQ rdF rdW rdRect rdCell
  repeat' first | exact ite8 (no8 (by simp [tk0, tkNum, tkStr, tkCode, tkRect, tkCell])) (fun _ => rfl) | exact fun _ => rfl | refine no8 ?_; simp [tk0, tkNum, tkStr, tkCode, tkRect, tkCell]; done | refine ite8 ?_ ?_
theorem end_is (p : List UInt8) (h : (rdT (bs p)).kind = 0) : p = [] := by
  rw [rdT_bs] at h
  by_cases hp : p = []
  · exact hp
  · rw [if_neg hp] at h
    unfold rdNum rdQ rdF rdW rdRect rdCell at h
    repeat' split at h
    all_goals simp [tk0, tkNum, tkStr, tkCode, tkRect, tkCell] at h
end Go.Proofs.YtaamphdihmghhaaGreatDoor
namespace Go.Proofs.YtaamphdihmghhaaGreatDoor
open Go.Shelf Go.RowKit
set_option linter.all false
theorem ext_bs (s : ByteArray) (a K : Nat) : s.extract a (a + K) = bs ((s.data.toList.drop a).take K) := by rw [← bs_of (s.extract a (a + K)), ext_mid2, Nat.add_sub_cancel_left]
theorem bgn_dr {l : List UInt8} {i : Nat} (hi : i < l.length) (cs : List UInt8) : bgn (l.drop i) cs = cs.contains l[i] := by rw [List.drop_eq_getElem_cons hi]; rfl
theorem endAt_8 {t : Tk} (h : t.kind = 8) (a n : Nat) : endAt t a n = a := by unfold endAt; rw [if_pos h]
theorem endAt_n {t : Tk} (h : ¬ t.kind = 8) (a n : Nat) : endAt t a n = a + n := by unfold endAt; rw [if_neg h]
theorem cnum (s : ByteArray) (a : Nat) (w : World) (hs : s.size < 4294967281) (ha : a ≤ s.size) (h : bgn (s.data.toList.drop a) DG = true) (T : Tk) (en : Nat) (hT : T = tkSet (rdT (bs (pc (s.data.toList.drop a)))) a) (hen : en = endAt (rdT (bs (pc (s.data.toList.drop a)))) a (reachL (s.data.toList.drop a))) :
    Calls Tryz.prog 17 #[.string s, .int .i64 a] w fun e w' => e = .returned (.tuple #[(.agg #[.int .i64 T.kind, .int .i64 T.at', .int .i64 T.num, .string T.str, .int .i64 T.c0, .int .i64 T.c1, .int .i64 T.r0, .int .i64 T.r1, .int .i64 T.r2, .int .i64 T.r3, .int .i64 T.code]), .int .i64 (en : Nat)]) ∧ Below w.heap.size w w' := by
  have e := nx_num h
  rw [e.2, ← ext_bs] at hT
  rw [e.2, e.1, ← ext_bs] at hen
  rw [hT, hen]
  exact rnumber s a w hs ha
theorem cfault (s : ByteArray) (a : Nat) (w : World) (hs : s.size < 4294967281) (ha : a ≤ s.size) (h0 : bgn (s.data.toList.drop a) DG = false) (h1 : bgn (s.data.toList.drop a) [34] = false) (h : bgn (s.data.toList.drop a) [35] = true) (T : Tk) (en : Nat) (hT : T = tkSet (rdT (bs (pc (s.data.toList.drop a)))) a) (hen : en = endAt (rdT (bs (pc (s.data.toList.drop a)))) a (reachL (s.data.toList.drop a))) :
    Calls Tryz.prog 19 #[.string s, .int .i64 a] w fun e w' => e = .returned (.tuple #[(.agg #[.int .i64 T.kind, .int .i64 T.at', .int .i64 T.num, .string T.str, .int .i64 T.c0, .int .i64 T.c1, .int .i64 T.r0, .int .i64 T.r1, .int .i64 T.r2, .int .i64 T.r3, .int .i64 T.code]), .int .i64 (en : Nat)]) ∧ Below w.heap.size w w' := by
  have e := nx_f h0 h1 h
  rw [e.2, ← ext_bs] at hT
  rw [e.2, e.1, ← ext_bs] at hen
  rw [hT, hen]
  exact rfault s a w hs ha
theorem cquoted (s : ByteArray) (a : Nat) (w : World) (hs : s.size < 4294967281) (ha : a < s.size) (h0 : bgn (s.data.toList.drop a) DG = false) (h : bgn (s.data.toList.drop a) [34] = true) (T : Tk) (en : Nat) (hT : T = tkSet (rdT (bs (pc (s.data.toList.drop a)))) a) (hen : en = endAt (rdT (bs (pc (s.data.toList.drop a)))) a (reachL (s.data.toList.drop a))) :
    Calls Tryz.prog 18 #[.string s, .int .i64 a] w fun e w' => e = .returned (.tuple #[(.agg #[.int .i64 T.kind, .int .i64 T.at', .int .i64 T.num, .string T.str, .int .i64 T.c0, .int .i64 T.c1, .int .i64 T.r0, .int .i64 T.r1, .int .i64 T.r2, .int .i64 T.r3, .int .i64 T.code]), .int .i64 (en : Nat)]) ∧ Below w.heap.size w w' := by
  have e := nx_q h0 h
  have ed : (s.data.toList.drop a).drop 1 = s.data.toList.drop (a + 1) := List.drop_drop
  rw [ed] at e
  refine rquoted s a w hs ha T en ?_
  cases hq : qok (s.data.toList.drop (a + 1))
  · rw [hq] at e
    have e2 : (rdT (bs (pc (s.data.toList.drop a)))) = tk0 8 := e.2
    right
    exact ⟨rfl, by rw [hT, e2], by rw [hen, e2]; exact endAt_8 rfl _ _⟩
  · rw [hq] at e
    have e2 : (rdT (bs (pc (s.data.toList.drop a)))) = tkStr 2 (bs (qtx (s.data.toList.drop (a + 1)))) := e.2
    left
    refine ⟨rfl, by rw [hT, e2], ?_⟩
    rw [hen, e2, e.1, endAt_n (by simp [tkStr])]; omega
theorem cname (s : ByteArray) (a : Nat) (w : World) (hs : s.size < 4294967281) (ha : a < s.size) (h0 : bgn (s.data.toList.drop a) DG = false) (h1 : bgn (s.data.toList.drop a) [34] = false) (h2 : bgn (s.data.toList.drop a) [35] = false) (h : bgn (s.data.toList.drop a) LT = true) (T : Tk) (en : Nat) (hT : T = tkSet (rdT (bs (pc (s.data.toList.drop a)))) a) (hen : en = endAt (rdT (bs (pc (s.data.toList.drop a)))) a (reachL (s.data.toList.drop a))) :
    Calls Tryz.prog 21 #[.string s, .int .i64 a] w fun e w' => e = .returned (.tuple #[(.agg #[.int .i64 T.kind, .int .i64 T.at', .int .i64 T.num, .string T.str, .int .i64 T.c0, .int .i64 T.c1, .int .i64 T.r0, .int .i64 T.r1, .int .i64 T.r2, .int .i64 T.r3, .int .i64 T.code]), .int .i64 (en : Nat)]) ∧ Below w.heap.size w w' := by
  have e := nx_w h0 h1 h2 h
  obtain ⟨K, hK⟩ : ∃ K, runL (s.data.toList.drop a) WD = K := ⟨_, rfl⟩
  have hKl := runL_le (s.data.toList.drop a) WD
  rw [List.length_drop, ← size_len, hK] at hKl
  have hKs : a + K ≤ s.size := by omega
  have hlt := wd_lt h
  rw [hK] at hlt
  have hx : (s.extract a (a + K)).data.toList = (s.data.toList.drop a).take K := by rw [ext_bs, bs_data]
  cases hm : meant ((s.data.toList.drop a).take K)
  · have e' := nw_w (r := (s.data.toList.drop a)) (by rw [hK]; exact hm)
    rw [hK, ← ext_bs s a K] at e'
    rw [e.2, e'.2] at hT
    rw [e.2, e'.2, e.1, e'.1, endAt_n (by simp [tkStr])] at hen
    rw [hT, hen]
    exact rname_w s a K w hs hK hKs (by rw [hx, hm]; simp)
  · have hmt : (bgn (s.extract a (a + K)).data.toList LT && meant (s.extract a (a + K)).data.toList) = true := by rw [hx, hm, hlt]; rfl
    have hdd : (s.data.toList.drop a).drop K = s.data.toList.drop (a + K) := List.drop_drop
    have cellC : bgn ((s.data.toList.drop a).drop K) [58] = false → (¬ a + K < s.size ∨ ∃ hend : a + K < s.size, s[a + K].toNat ≠ 58) → Calls Tryz.prog 21 #[.string s, .int .i64 a] w fun e w' => e = .returned (.tuple #[(.agg #[.int .i64 T.kind, .int .i64 T.at', .int .i64 T.num, .string T.str, .int .i64 T.c0, .int .i64 T.c1, .int .i64 T.r0, .int .i64 T.r1, .int .i64 T.r2, .int .i64 T.r3, .int .i64 T.code]), .int .i64 (en : Nat)]) ∧ Below w.heap.size w w' := by
      intro hc hor
      have e' := nw_c (r := (s.data.toList.drop a)) (by rw [hK]; exact hm) (by rw [hK]; exact hc)
      rw [hK, ← ext_bs s a K] at e'
      rw [e.2, e'.2] at hT
      rw [e.2, e'.2, e.1, e'.1] at hen
      unfold rdCell at hT hen
      cases hp : pB (s.extract a (a + K))
      · rw [hp] at hT hen
        have hT' : T = tkSet (tk0 8) a := hT
        have hen' : en = a := hen
        rw [hT', hen']
        rcases hor with hend | ⟨hend, hcol⟩
        · exact rname_cf1 s a K w hs hK hKs hmt hend hp
        · exact rname_cf2 s a K w hs hK hKs hmt hend hcol hp
      · rw [hp] at hT hen
        have hT' : T = tkSet (tkCell (pR (s.extract a (a + K))) (pC (s.extract a (a + K)))) a := hT
        have hen' : en = a + K := hen.trans (endAt_n (by simp [tkCell]) _ _)
        rw [hT', hen']
        rcases hor with hend | ⟨hend, hcol⟩
        · exact rname_ct1 s a K w hs hK hKs hmt hend hp
        · exact rname_ct2 s a K w hs hK hKs hmt hend hcol hp
    by_cases hend : a + K < s.size
    · have hll : a + K < s.data.toList.length := by rw [← size_len]; exact hend
      have hb : bgn ((s.data.toList.drop a).drop K) [58] = [58].contains s[a + K] := by rw [hdd, bgn_dr hll, byte_at s (a + K) hend hll]
      by_cases hcol : s[a + K].toNat = 58
      · have hc : bgn ((s.data.toList.drop a).drop K) [58] = true := by rw [hb]; have : s[a + K] = 58 := UInt8.toNat_inj.1 hcol; rw [this]; rfl
        have e' := nw_r (r := (s.data.toList.drop a)) (by rw [hK]; exact hm) (by rw [hK]; exact hc)
        have hdd2 : (s.data.toList.drop a).drop (K + 1) = s.data.toList.drop (a + K + 1) := by rw [List.drop_drop, Nat.add_assoc]
        rw [hK, hdd2] at e'
        obtain ⟨J, hJ⟩ : ∃ J, runL (s.data.toList.drop (a + K + 1)) WD = J := ⟨_, rfl⟩
        have hJl := runL_le (s.data.toList.drop (a + K + 1)) WD
        rw [List.length_drop, ← size_len, hJ] at hJl
        rw [hJ, ← ext_bs s a (K + 1 + J)] at e'
        have hass : a + (K + 1 + J) = a + K + 1 + J := by omega
        rw [hass] at e'
        rw [e.2, e'.2] at hT
        rw [e.2, e'.2, e.1, e'.1] at hen
        unfold rdRect at hT hen
        cases hq : qB (s.extract a (a + K + 1 + J))
        · rw [hq] at hT hen
          have hT' : T = tkSet (tk0 8) a := hT
          have hen' : en = a := hen
          rw [hT', hen']
          exact rname_rf s a K w hs hK hKs hend hcol J hJ (by omega) hmt hq
        · rw [hq] at hT hen
          have hT' : T = tkSet (tkRect (qT (s.extract a (a + K + 1 + J))) (qL (s.extract a (a + K + 1 + J))) (qO (s.extract a (a + K + 1 + J))) (qR (s.extract a (a + K + 1 + J)))) a := hT
          have hen' : en = a + K + 1 + J := (hen.trans (endAt_n (by simp [tkRect]) _ _)).trans hass
          rw [hT', hen']
          exact rname_rt s a K w hs hK hKs hend hcol J hJ (by omega) hmt hq
      · have hc : bgn ((s.data.toList.drop a).drop K) [58] = false := by
          rw [hb]
          cases hz : [58].contains s[a + K]
          · rfl
          · have : s[a + K] = 58 := by simpa using hz
            exact absurd (by rw [this]; rfl) hcol
        exact cellC hc (.inr ⟨hend, hcol⟩)
    · have hc : bgn ((s.data.toList.drop a).drop K) [58] = false := by rw [hdd, List.drop_of_length_le (by rw [← size_len]; omega)]; rfl
      exact cellC hc (.inl hend)
theorem csign (s : ByteArray) (a : Nat) (w : World) (hs : s.size < 4294967281) (ha : a < s.size) (h0 : bgn (s.data.toList.drop a) DG = false) (h1 : bgn (s.data.toList.drop a) [34] = false) (h2 : bgn (s.data.toList.drop a) [35] = false) (h3 : bgn (s.data.toList.drop a) LT = false) (T : Tk) (en : Nat) (hT : T = tkSet (rdT (bs (pc (s.data.toList.drop a)))) a) (hen : en = endAt (rdT (bs (pc (s.data.toList.drop a)))) a (reachL (s.data.toList.drop a))) :
    Calls Tryz.prog 22 #[.string s, .int .i64 a] w fun e w' => e = .returned (.tuple #[(.agg #[.int .i64 T.kind, .int .i64 T.at', .int .i64 T.num, .string T.str, .int .i64 T.c0, .int .i64 T.c1, .int .i64 T.r0, .int .i64 T.r1, .int .i64 T.r2, .int .i64 T.r3, .int .i64 T.code]), .int .i64 (en : Nat)]) ∧ Below w.heap.size w w' := by
  have hll : a < s.data.toList.length := by rw [← size_len]; exact ha
  have hsg : bgn (s.data.toList.drop a) SG = SG.contains s[a] := by rw [bgn_dr hll, byte_at s a ha hll]
  have hne : ¬ (s.data.toList.drop a) = [] := by rw [List.drop_eq_getElem_cons hll]; simp
  have e := nx_s hne h0 h1 h2 h3
  have one : twoL (s.data.toList.drop a) = false → (SG.contains s[a] = true ∧ T = tkSet (tkStr 7 (s.extract a (a + 1))) a ∧ en = a + 1) ∨ (SG.contains s[a] = false ∧ T = tkSet (tk0 8) a ∧ en = a) := by
    intro ht
    rw [ht, hsg] at e
    have e1 : reachL (s.data.toList.drop a) = 1 := e.1
    cases hc : SG.contains s[a]
    · rw [hc] at e
      have e2 : (rdT (bs (pc (s.data.toList.drop a)))) = tk0 8 := e.2
      right
      exact ⟨rfl, by rw [hT, e2], by rw [hen, e2]; exact endAt_8 rfl _ _⟩
    · rw [hc] at e
      have e2 : (rdT (bs (pc (s.data.toList.drop a)))) = tkStr 7 (bs ((s.data.toList.drop a).take 1)) := e.2
      left
      refine ⟨rfl, by rw [hT, e2, ext_bs], ?_⟩
      rw [hen, e2, e1, endAt_n (by simp [tkStr])]
  by_cases hl : a + 1 < s.size
  · have hll2 : a + 1 < s.data.toList.length := by rw [← size_len]; exact hl
    have hr : (s.data.toList.drop a) = s.data.toList[a] :: s.data.toList[a + 1] :: s.data.toList.drop (a + 1 + 1) := by rw [List.drop_eq_getElem_cons hll, List.drop_eq_getElem_cons hll2]
    have hx : (s.extract a (a + 2)).toList = [s.data.toList[a], s.data.toList[a + 1]] := by
      rw [ByteArray.toList_eq, ext_mid2, hr, Nat.add_sub_cancel_left]; rfl
    have h2w := two_eq s.data.toList[a] s.data.toList[a + 1] (s.data.toList.drop (a + 1 + 1))
    rw [← hr, ← hx] at h2w
    cases ht : twoL (s.data.toList.drop a)
    · have hone := one ht
      rw [ht] at h2w
      have h2w' := h2w.symm
      simp only [Bool.or_eq_false_iff] at h2w'
      exact rsign_1 s a w hs ha hl h2w'.1 h2w'.2.1 h2w'.2.2 T en hone
    · rw [ht] at h2w e
      have hsg1 := two_sg ht
      rw [hsg1] at e
      have e1 : reachL (s.data.toList.drop a) = 2 := e.1
      have e2 : (rdT (bs (pc (s.data.toList.drop a)))) = tkStr 7 (bs ((s.data.toList.drop a).take 2)) := e.2
      rw [e2, ← ext_bs] at hT
      rw [e2, e1, endAt_n (by simp [tkStr])] at hen
      rw [hT, hen]
      exact rsign_2 s a w hs hl _ _ _ rfl rfl rfl h2w.symm
  · have ht : twoL (s.data.toList.drop a) = false := by
      rw [List.drop_eq_getElem_cons hll, List.drop_of_length_le (by rw [← size_len]; omega)]; simp [twoL, List.isPrefixOf]
    exact rsign_e s a w hs ha hl T en (one ht)
end Go.Proofs.YtaamphdihmghhaaGreatDoor
