/- The contract of the document's word: the greatest of 0 to 9999 by which a number may be multiplied to be not above another one. New memory alone is made. · The contract of the document's quotient: of 1 and so many words of nought by a number, rounded. New memory alone is made. -/
import Derived.Test.YtfpbcokfianjaaaGreatQPwPNext2PwPLess
namespace Go.Proofs.YtfpbcokfianjaaaGreat.Pw
open Go.Shelf Go.RowKit
set_option linter.all false
theorem belowN' {B : Nat} {a w : World} (h : Below B a w) (k : Nat) : Below B a (w.drewN k) := ⟨h.os, h.tape, h.output, h.size, h.block⟩
set_option maxRecDepth 100000 in
set_option maxHeartbeats 1000000 in
theorem word_any (va vb : Value) (la lb : List Nat) (w : World) (ha : IsW w va la) (hb : IsW w vb lb) (wa : Wds la) (wb : Wds lb) (ta : Top la) (hlt : wv la < 10000 * wv lb) (hlb : lb.length ≤ 2000) :
    Calls Tryz.prog 107 #[va, vb] w fun e w' => ∃ d : Nat, e = .returned (.int .i64 d) ∧ d < 10000 ∧ d * wv lb ≤ wv la ∧ wv la < (d + 1) * wv lb ∧ Below w.heap.size w w' := by
  have HA := Lib.hid ha
  have HB0 := Lib.hid hb
  have WA := Lib.hid wa
  have WB := Lib.hid wb
  have TA := Lib.hid ta
  have HLT := Lib.hid hlt
  clear ha hb wa wb ta hlt
  go_enter Tryz.func107, Tryz.ntmps107
  go_wp2
  go_loopw [5, 6] (fun x y wr => ∃ (lo hi : Nat), lo < hi ∧ hi ≤ 10000 ∧ x = .int .i64 lo ∧ y = .int .i64 hi ∧ lo * wv lb ≤ wv la ∧ wv la < hi * wv lb ∧ Below w.heap.size w wr) (fun x y _ => (intOf y - intOf x).toNat)
  case atStart => exact ⟨0, 10000, by decide, by decide, rfl, rfl, by simp, HLT.out, Below.refl _ _⟩
  case round =>
    obtain ⟨lo, hi, h1, h2, rfl, rfl, h3, h4, hB⟩ := hrel
    have H3 := Lib.hid h3
    have H4 := Lib.hid h4
    clear h3 h4
    by_cases hd : hi - lo > 1
    · have hd' : (1 : Int) < (hi : Int) - (lo : Int) := by omega
      obtain ⟨mid, hmid⟩ : ∃ mid : Nat, mid = (lo + hi) / 2 := ⟨_, rfl⟩
      have e0 : ((lo : Int) + (hi : Int)).tdiv 2 = (mid : Int) := by rw [Int.tdiv_eq_ediv_of_nonneg (by omega)]; omega
      have e0' : ((lo : Int) + (hi : Int)) / 2 = (mid : Int) := by omega
      have x1 : IntKind.u64.wrap (mid : Int) = (mid : Int) := by rw [wrapU]; omega
      have hm1 : lo < mid := by omega
      have hm2 : mid < hi := by omega
      clear hmid hd
      go_wp2_with (first
        | (go_at_call 75; refine (great_any mid _ (by omega)).mono ?_; rintro e w2 ⟨g, vg, rfl, g1, g2, g3, g4, g5, g6⟩; have G1 := Lib.hid g1; have G2 := Lib.hid g2; have G4 := Lib.hid g4; clear g1 g2 g3 g4)
        | (go_at_call 74; refine (product_any _ _ lb g _ (HB0.out.keep (bup hB g6)) G1.out WB.out G2.out (by omega)).mono ?_; rintro e w3 ⟨m, vm, rfl, p1, p2, p3, p4, p5, p6⟩; have P1 := Lib.hid p1; have P2 := Lib.hid p2; have P3 := Lib.hid p3; have P4 := Lib.hid p4; clear p1 p2 p3 p4)
        | (go_at_call 76; refine (below_any _ _ la m _ (HA.out.keep (bup (bup hB g6) p6)) P1.out WA.out P2.out TA.out P3.out).mono ?_; rintro e w4 ⟨rfl, k, rfl⟩))
      · go_roundw
        case rel => exact ⟨lo, mid, hm1, by omega, rfl, rfl, H3.out, by (have q : wv la < wv m := by (first | assumption | (have := ‹decide (wv la < wv m) = true›; simpa using this))); rw [P4.out, G4.out, Nat.mul_comm] at q; exact q, belowN' (bup (bup hB g6) p6) k⟩
        case measure => simp [intOf]; omega
      · go_roundw
        case rel => exact ⟨mid, hi, hm2, h2, rfl, rfl, by (have q : ¬ wv la < wv m := by (first | assumption | (apply Nat.not_lt.2; assumption) | (have := ‹decide (wv la < wv m) = false›; simpa using this))); rw [P4.out, G4.out, Nat.mul_comm] at q; omega, H4.out, belowN' (bup (bup hB g6) p6) k⟩
        case measure => simp [intOf]; omega
    · have hd' : ¬ (1 : Int) < (hi : Int) - (lo : Int) := by omega
      obtain rfl : hi = lo + 1 := by omega
      go_wp2
      go_ret
      exact ⟨lo, rfl, by omega, H3.out, H4.out, hB⟩
end Go.Proofs.YtfpbcokfianjaaaGreat.Pw
namespace Go.Proofs.YtfpbcokfianjaaaGreat.Pw
open Go.Shelf Go.RowKit
set_option linter.all false
theorem append_run (w0 wr : World) (ty : TypeId) (v vs : Value) (l m : List Nat) (ho : wr.ownsRow w0.heap.size 3 1 v l.length (ints l)) (hs : IsW wr vs m) (hB : Below w0.heap.size w0 wr) (hlen : l.length + m.length ≤ 4000) :
    ∃ v' w', (Builtin.append_ #[93, 93] ty #[v, vs]).run Tryz.prog wr = .ok v' w' ∧ w'.ownsRow w0.heap.size 3 1 v' (l ++ m).length (ints (l ++ m)) ∧ Below w0.heap.size w0 w' := by
  obtain ⟨i0, hi, hz0, hz1, hz2⟩ := info_parts infoInt
  rcases hs.lies with ⟨rfl, rfl⟩ | ⟨g, cap, rfl, h1, h2, hc⟩
  · exact ⟨v, wr, run_append_owned_none wr w0.heap.size _ ty _ i0 1 Tryz.underlying93 hi v l.length (ints l) ho, by rw [List.append_nil]; exact ho, hB⟩
  · obtain ⟨v', w', hr, q1, q2, _⟩ := run_append_own (P := Tryz.prog) wr w0.heap.size 93 ty 3 i0 (.int .i64 0) 1 8 Tryz.underlying93 hi hz0 hz1 hz2 rfl (by decide) v l.length (ints l) ho ⟨g, 0, none⟩ m.length cap (ints m) (by rw [ints_len]; omega) (fun j u hj => by
      have hjl : j < m.length := by
        have := List.getElem?_eq_some_iff.1 hj
        obtain ⟨k, _⟩ := this
        rw [ints_len] at k; exact k
      rw [ints_at m j hjl] at hj
      rw [← hj]
      have := hc j hjl
      by_cases hj0 : j = 0
      · subst hj0; simpa [Addr.add] using this
      · simpa [Addr.add, hj0] using this) (fun u hu => by
      unfold ints at hu
      obtain ⟨n, _, rfl⟩ := List.mem_map.1 hu
      rfl) (by unfold maxLen; omega) (by omega) hB.size
    refine ⟨v', w', hr, ?_, Below.grown hB q2 hB.size (fun k hk => (ho.lt k hk).1)⟩
    rw [List.length_append, show ints (l ++ m) = ints l ++ ints m by unfold ints; simp]
    exact q1
theorem wpList_append_w {ops : Array Oper} {rest : List Oper} {o : Oper} {a : Act} {Q : Exit → Act → World → Prop} (hgd : o.guard = none) (s x : Operand)
    (ho : o.op = .call { callee := .builtin .append, args := #[s, x], argTypes := #[93, 93] }) (w0 wr : World) (v vs : Value) (l m : List Nat) (hs : a.eval s = v) (hx : a.eval x = vs)
    (hown : wr.ownsRow w0.heap.size 3 1 v l.length (ints l)) (hsrc : IsW wr vs m) (hB : Below w0.heap.size w0 wr) (hlen : l.length + m.length ≤ 4000)
    (h : ∀ v' w', w'.ownsRow w0.heap.size 3 1 v' (l ++ m).length (ints (l ++ m)) → Below w0.heap.size w0 w' → wpList Tryz.prog ops Q rest (a.put o.dst v') w') : wpList Tryz.prog ops Q (o :: rest) a wr :=
  wpList_plain hgd fun _ hK => by
    obtain ⟨v', w', hr, h2, h3⟩ := append_run w0 wr o.type v vs l m hown hsrc hB hlen
    unfold Oper.wp execOp
    simp only [ho, resolve, invoke, builtin, Sem.run_bind, Sem.run_pure, Result.andThen_ok, List.map_toArray, List.map_cons, List.map_nil, hs, hx, hr]
    exact hK _ _ (h v' w' h2 h3)
/-- A word by itself, in a row of one's own. -/
theorem own_one {w wr : World} (hB : Below w.heap.size w wr) (x : Nat) : (wr.alloc (.cells #[.int .i64 (x : Int)] 3)).ownsRow w.heap.size 3 1 (.slice (some ⟨wr.heap.size, 0, none⟩) 1 1) [x].length (ints [x]) :=
  World.ownsRow_lit (base := w.heap.size) (e := 3) (size := 1) wr #[.int .i64 (x : Int)] 1 hB.size (by unfold maxLen; decide) rfl
theorem wds_cons (x : Nat) (hx : x < 10000) {r : List Nat} (h : Wds r) : Wds ([x] ++ r) := fun y hy => by
  rcases List.mem_append.1 hy with hy | hy
  · simp at hy; omega
  · exact h y hy
/-- 1 and so many words of nought. -/
def tq : Nat → Nat
  | 0 => 0
  | i + 1 => 10000 ^ i
theorem tq_succ (i : Nat) : tq (i + 1) = (if i = 0 then 1 else 0) + 10000 * tq i := by
  cases i with
  | zero => rfl
  | succ i => simp only [tq]; rw [Nat.pow_succ]; simp; omega
/-- What quotient holds behind i words. -/
structure Quo (B : Nat) (q r : List Nat) (i : Nat) : Prop where
  len : q.length = i
  wq : Wds q
  wr : Wds r
  tr : Top r
  lt : wv r < B
  val : wv q * B + wv r = tq i
theorem Quo.step {B : Nat} {q r m r' : List Nat} {i x d : Nat} (h : Quo B q r i) (hx : x = if i = 0 then 1 else 0) (hm : wv m = wv (x :: r)) (hd : d < 10000) (h1 : d * B ≤ wv m) (h2 : wv m < (d + 1) * B) (hr' : wv r' = wv m - B * d) (w' : Wds r') (t' : Top r') : Quo B (d :: q) r' (i + 1) := by
  have hv := h.val
  have e1 : B * d = d * B := Nat.mul_comm _ _
  refine ⟨by simp [h.len], fun y hy => ?_, w', t', ?_, ?_⟩
  · rcases List.mem_cons.1 hy with rfl | hy
    · exact hd
    · exact h.wq y hy
  · rw [Nat.add_mul, Nat.one_mul] at h2; omega
  · rw [tq_succ, ← hx, ← hv]
    simp only [wv] at hm ⊢
    rw [Nat.add_mul]
    have e2 : 10000 * wv q * B = 10000 * (wv q * B) := Nat.mul_assoc _ _ _
    omega
theorem Quo.fit {B : Nat} {q r : List Nat} {i x : Nat} (h : Quo B q r i) (hx : x ≤ 1) : wv (x :: r) < 10000 * B := by
  have := h.lt; simp only [wv]; omega
theorem top_len {r b : List Nat} (hb : Wds b) (tr : Top r) (h : wv r < wv b) : r.length ≤ b.length := by
  apply Nat.le_of_not_lt
  intro k
  have := wv_len_lt hb tr k
  omega
theorem round_up {q r B : Nat} (h : r < B) (k : B ≤ r * 2) : q + 1 = (2 * (q * B + r) + B) / (2 * B) := by
  symm
  rw [Nat.div_eq_iff (by omega)]
  have e : 2 * (q * B + r) = q * (2 * B) + 2 * r := by rw [Nat.mul_add, ← Nat.mul_assoc, Nat.mul_comm 2 q, Nat.mul_assoc]
  rw [e, Nat.add_mul]
  omega
theorem round_down {q r B : Nat} (h : r < B) (k : r * 2 < B) : q = (2 * (q * B + r) + B) / (2 * B) := by
  symm
  rw [Nat.div_eq_iff (by omega)]
  have e : 2 * (q * B + r) = q * (2 * B) + 2 * r := by rw [Nat.mul_add, ← Nat.mul_assoc, Nat.mul_comm 2 q, Nat.mul_assoc]
  rw [e]
  omega
set_option maxRecDepth 100000 in
set_option maxHeartbeats 2000000 in
theorem quotient_any (vb : Value) (lb : List Nat) (words : Nat) (w : World) (hb : IsW w vb lb) (wb : Wds lb) (tb : Top lb) (h0 : 0 < wv lb) (hlb : lb.length ≤ 400) (hw : words ≤ 70) :
    Calls Tryz.prog 79 #[.int .i64 words, vb] w fun e w' => ∃ (m : List Nat) (v' : Value), e = .returned v' ∧ IsW w' v' m ∧ Wds m ∧ Top m ∧ wv m = (2 * 10000 ^ words + wv lb) / (2 * wv lb) ∧ Below w.heap.size w w' := by
  have HB0 := Lib.hid hb
  have WB := Lib.hid wb
  have TB := Lib.hid tb
  have H00 := Lib.hid h0
  clear hb wb tb h0
  go_enter Tryz.func79, Tryz.ntmps79
  go_wp2
  go_loopw [5, 6, 7] (fun vq vr x wr => ∃ (i : Nat) (q r : List Nat), i ≤ words + 1 ∧ x = .int .i64 i ∧ IsW wr vq q ∧ IsW wr vr r ∧ Quo (wv lb) q r i ∧ Below w.heap.size w wr) (fun _ _ x _ => words + 1 - (intOf x).toNat)
  case atStart => exact ⟨0, [], [], Nat.zero_le _, rfl, IsW.nil _, IsW.nil _, ⟨rfl, fun x hx => by simp at hx, fun x hx => by simp at hx, Top.nil, H00.out, by simp [wv, tq]⟩, Below.refl _ _⟩
  case round =>
    obtain ⟨i, q, r, hi, rfl, hq, hr, hQ, hB⟩ := hrel
    have HQ := Lib.hid hq
    have HR := Lib.hid hr
    have QQ := Lib.hid hQ
    have hql : q.length = i := hQ.len
    have hrl : r.length ≤ 400 := Nat.le_trans (top_len WB.out hQ.tr hQ.lt) hlb
    clear hq hr hQ
    by_cases hlt : i ≤ words
    · have hlt' : (i : Int) ≤ words := by omega
      by_cases hi0 : i = 0
      · have HX := Lib.hid (show 1 = if i = 0 then 1 else 0 by rw [if_pos hi0])
        have hi0' : ((i : Int) == 0) = true := by simp; exact hi0
        clear hi0
        go_wp2_with (first
          | (at_builtin; refine wpList_append_w rfl (.tmp 21) (.tmp 22) rfl wr _ _ _ [1] r rfl rfl (own_one (Below.refl _ wr) 1) (HR.out.keep (bal _ _)) (bal _ _) (by simp; omega) ?_; intro v1 w1 o1 b1; have O1 := Lib.hid o1; clear o1)
          | (go_at_call 106; refine (pcut_any _ ([1] ++ r) _ (IsW.of_own O1.out) (wds_cons 1 (by decide) QQ.out.wr)).mono ?_; rintro e w2 ⟨⟨m, vm, rfl, m1, m2, m3, m4, m5⟩, rfl⟩; have M1 := Lib.hid m1; have M2 := Lib.hid m2; have M3 := Lib.hid m3; have M4 := Lib.hid m4; have hml : m.length ≤ 401 := (by simp at m5; omega); clear m1 m2 m3 m4 m5)
          | (go_at_call 107; refine (word_any _ _ m lb _ M1.out (HB0.out.keep (bup hB b1)) M2.out WB.out M3.out (by rw [M4.out]; exact QQ.out.fit (by decide)) (by omega)).mono ?_; rintro e w3 ⟨d, rfl, d1, d2, d3, b3⟩; have D2 := Lib.hid d2; have D3 := Lib.hid d3; have C3 := bup b1 b3; have x1 : IntKind.u64.wrap (d : Int) = (d : Int) := (by rw [wrapU]; omega); clear d2 d3)
          | (go_at_call 75; refine (great_any d _ (by omega)).mono ?_; rintro e w4 ⟨g, vg, rfl, g1, g2, g3, g4, g5, b4⟩; have G1 := Lib.hid g1; have G2 := Lib.hid g2; have G4 := Lib.hid g4; have C4 := bup C3 b4; have E4 := bup b3 b4; clear g1 g2 g3 g4)
          | (go_at_call 74; refine (product_any _ _ lb g _ (HB0.out.keep (bup hB C4)) G1.out WB.out G2.out (by omega)).mono ?_; rintro e w5 ⟨pm, vp, rfl, p1, p2, p3, p4, p5, p6⟩; have P1 := Lib.hid p1; have P2 := Lib.hid p2; have P3 := Lib.hid p3; have P4 := Lib.hid (show wv pm = wv lb * d by rw [p4, G4.out]); have C5 := bup C4 p6; have E5 := bup E4 p6; clear p1 p2 p3 p4)
          | (go_at_call 108; refine (less_any _ _ m pm _ (M1.out.keep E5) P1.out M2.out P2.out M3.out P3.out (by rw [P4.out, Nat.mul_comm]; exact D2.out) (by omega)).mono ?_; rintro e w6 ⟨r2, vr2, rfl, r1, r2w, r2t, r2v, r2l, b6⟩; have R1 := Lib.hid r1; have RW := Lib.hid r2w; have RT := Lib.hid r2t; have RV := Lib.hid (show wv r2 = wv m - wv lb * d by rw [r2v, P4.out]); have C6 := bup C5 b6; clear r1 r2w r2t r2v)
          | (at_builtin; refine wpList_append_w rfl (.tmp 38) (.tmp 39) rfl w6 _ _ _ [d] q rfl rfl (own_one (Below.refl _ w6) d) (HQ.out.keep (bup C6 (bal _ _))) (bal _ _) (by simp; omega) ?_; intro v7 w7 o7 b7; have O7 := Lib.hid o7; clear o7))
        go_roundw
        case rel => exact ⟨i + 1, d :: q, r2, by omega, by go_num, IsW.of_own O7.out, R1.out.keep b7, QQ.out.step HX.out M4.out d1 D2.out D3.out RV.out RW.out RT.out, bup hB (bup C6 b7)⟩
        case measure => simp [intOf]; omega
      · have HX := Lib.hid (show 0 = if i = 0 then 1 else 0 by rw [if_neg hi0])
        have hi0' : ((i : Int) == 0) = false := by simp; exact hi0
        clear hi0
        go_wp2_with (first
          | (at_builtin; refine wpList_append_w rfl (.tmp 21) (.tmp 22) rfl wr _ _ _ [0] r rfl rfl (own_one (Below.refl _ wr) 0) (HR.out.keep (bal _ _)) (bal _ _) (by simp; omega) ?_; intro v1 w1 o1 b1; have O1 := Lib.hid o1; clear o1)
          | (go_at_call 106; refine (pcut_any _ ([0] ++ r) _ (IsW.of_own O1.out) (wds_cons 0 (by decide) QQ.out.wr)).mono ?_; rintro e w2 ⟨⟨m, vm, rfl, m1, m2, m3, m4, m5⟩, rfl⟩; have M1 := Lib.hid m1; have M2 := Lib.hid m2; have M3 := Lib.hid m3; have M4 := Lib.hid m4; have hml : m.length ≤ 401 := (by simp at m5; omega); clear m1 m2 m3 m4 m5)
          | (go_at_call 107; refine (word_any _ _ m lb _ M1.out (HB0.out.keep (bup hB b1)) M2.out WB.out M3.out (by rw [M4.out]; exact QQ.out.fit (by decide)) (by omega)).mono ?_; rintro e w3 ⟨d, rfl, d1, d2, d3, b3⟩; have D2 := Lib.hid d2; have D3 := Lib.hid d3; have C3 := bup b1 b3; have x1 : IntKind.u64.wrap (d : Int) = (d : Int) := (by rw [wrapU]; omega); clear d2 d3)
          | (go_at_call 75; refine (great_any d _ (by omega)).mono ?_; rintro e w4 ⟨g, vg, rfl, g1, g2, g3, g4, g5, b4⟩; have G1 := Lib.hid g1; have G2 := Lib.hid g2; have G4 := Lib.hid g4; have C4 := bup C3 b4; have E4 := bup b3 b4; clear g1 g2 g3 g4)
          | (go_at_call 74; refine (product_any _ _ lb g _ (HB0.out.keep (bup hB C4)) G1.out WB.out G2.out (by omega)).mono ?_; rintro e w5 ⟨pm, vp, rfl, p1, p2, p3, p4, p5, p6⟩; have P1 := Lib.hid p1; have P2 := Lib.hid p2; have P3 := Lib.hid p3; have P4 := Lib.hid (show wv pm = wv lb * d by rw [p4, G4.out]); have C5 := bup C4 p6; have E5 := bup E4 p6; clear p1 p2 p3 p4)
          | (go_at_call 108; refine (less_any _ _ m pm _ (M1.out.keep E5) P1.out M2.out P2.out M3.out P3.out (by rw [P4.out, Nat.mul_comm]; exact D2.out) (by omega)).mono ?_; rintro e w6 ⟨r2, vr2, rfl, r1, r2w, r2t, r2v, r2l, b6⟩; have R1 := Lib.hid r1; have RW := Lib.hid r2w; have RT := Lib.hid r2t; have RV := Lib.hid (show wv r2 = wv m - wv lb * d by rw [r2v, P4.out]); have C6 := bup C5 b6; clear r1 r2w r2t r2v)
          | (at_builtin; refine wpList_append_w rfl (.tmp 38) (.tmp 39) rfl w6 _ _ _ [d] q rfl rfl (own_one (Below.refl _ w6) d) (HQ.out.keep (bup C6 (bal _ _))) (bal _ _) (by simp; omega) ?_; intro v7 w7 o7 b7; have O7 := Lib.hid o7; clear o7))
        go_roundw
        case rel => exact ⟨i + 1, d :: q, r2, by omega, by go_num, IsW.of_own O7.out, R1.out.keep b7, QQ.out.step HX.out M4.out d1 D2.out D3.out RV.out RW.out RT.out, bup hB (bup C6 b7)⟩
        case measure => simp [intOf]; omega
    · obtain rfl : i = words + 1 := by omega
      have hlt' : ¬ (((words + 1 : Nat)) : Int) ≤ words := by omega
      have hT : wv q * wv lb + wv r = 10000 ^ words := QQ.out.val
      have HT := Lib.hid hT
      clear hT
      go_wp2_with (first
        | (go_at_call 74; refine (product_any _ _ r [2] _ (HR.out.keep (bal _ _)) (isW_one _ 2) QQ.out.wr (fun y hy => by simp at hy; omega) (by simp; omega)).mono ?_; rintro e w2 ⟨m, vm, rfl, m1, m2, m3, m4, m5, b2⟩; have M1 := Lib.hid m1; have M2 := Lib.hid m2; have M3 := Lib.hid m3; have M4 := Lib.hid (show wv m = wv r * 2 by rw [m4]; simp [wv]); have C2 := bup (bal wr _) b2; clear m1 m2 m3 m4)
        | (go_at_call 76; refine (below_any _ _ m lb _ M1.out (HB0.out.keep (bup hB C2)) M2.out WB.out M3.out TB.out).mono ?_; rintro e w3 ⟨rfl, k, rfl⟩)
        | (go_at_call 82; refine (next_any _ q _ ((HQ.out.keep C2).drewN _) QQ.out.wq (by omega)).mono ?_; rintro e w4 ⟨m', v', rfl, n1, n2, n3, n4, b4⟩)
        | (go_at_call 106; refine (pcut_any _ q _ ((HQ.out.keep C2).drewN _) QQ.out.wq).mono ?_; rintro e w4 ⟨⟨m', v', rfl, n1, n2, n3, n4, n5⟩, rfl⟩))
      all_goals go_ret
      · exact ⟨m', v', rfl, n1, n2, n3, by rw [n4, ← HT.out]; first | exact round_up QQ.out.lt (by first | (have h := ‹(!decide (wv m < wv lb)) = true›; simp at h; have := M4.out; omega) | (have h := ‹(!decide (wv m < wv lb)) = false›; simp at h; have := M4.out; omega) | (have h := ‹wv m < wv lb›; have := M4.out; omega) | (have h := ‹wv lb ≤ wv m›; have := M4.out; omega)) | exact round_down QQ.out.lt (by first | (have h := ‹(!decide (wv m < wv lb)) = true›; simp at h; have := M4.out; omega) | (have h := ‹(!decide (wv m < wv lb)) = false›; simp at h; have := M4.out; omega) | (have h := ‹wv m < wv lb›; have := M4.out; omega) | (have h := ‹wv lb ≤ wv m›; have := M4.out; omega)), by first | exact bup (belowN' (bup hB C2) k) b4 | exact belowN' (bup hB C2) k⟩
      · exact ⟨m', v', rfl, n1, n2, n3, by rw [n4, ← HT.out]; first | exact round_up QQ.out.lt (by first | (have h := ‹(!decide (wv m < wv lb)) = true›; simp at h; have := M4.out; omega) | (have h := ‹(!decide (wv m < wv lb)) = false›; simp at h; have := M4.out; omega) | (have h := ‹wv m < wv lb›; have := M4.out; omega) | (have h := ‹wv lb ≤ wv m›; have := M4.out; omega)) | exact round_down QQ.out.lt (by first | (have h := ‹(!decide (wv m < wv lb)) = true›; simp at h; have := M4.out; omega) | (have h := ‹(!decide (wv m < wv lb)) = false›; simp at h; have := M4.out; omega) | (have h := ‹wv m < wv lb›; have := M4.out; omega) | (have h := ‹wv lb ≤ wv m›; have := M4.out; omega)), by first | exact bup (belowN' (bup hB C2) k) b4 | exact belowN' (bup hB C2) k⟩
end Go.Proofs.YtfpbcokfianjaaaGreat.Pw
