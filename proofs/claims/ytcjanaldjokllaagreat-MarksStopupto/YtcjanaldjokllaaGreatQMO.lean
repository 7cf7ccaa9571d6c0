/- MarksStop's walk. -/
import Derived.Test.YtcjanaldjokllaaGreatQMMMN
namespace Go.Proofs.YtcjanaldjokllaaGreat
open Go.RowKit Go.Shelf
set_option linter.all false
theorem cst_tk (l : List Dv) (i : Nat) : cst (l.take i) ≤ cst l := by
  have h := congrArg cst (List.take_append_drop i l)
  simp only [cst, List.map_append, List.sum_append] at h ⊢
  omega
theorem cst_ln : ∀ l : List Dv, l.length ≤ cst l
  | [] => Nat.zero_le _
  | d :: l => by
    have := cst_ln l
    simp only [cst, List.map_cons, List.sum_cons, List.length_cons] at this ⊢
    omega
theorem neMkS (a b s : Int) (w : World) : (binOp .neq 61 (.agg #[.int .i64 a, .int .i64 b, .int .i64 s]) (.agg #[.int .i64 a, .int .i64 b, .int .i64 s])).run Tryz.prog w = .ok (.bool false) w := by
  rw [run_neq_struct, run_equalIn_agg w 9999 61 _ _ (by kernel_rfl) (by kernel_rfl)]
  go_simp
/-- Behind a touch of (x, y). -/
def Stb (D : List Dv) (x y : Int) (f : Bool) (M : Ms) : Prop := mayC x y = true → M x y = tchM M x y f x y ∧ ∀ ks, IsWho (runE D) x y ks → ∀ k ∈ ks, (k.r = x ∧ k.c = y) ∨ 2 ≤ stM M k.r k.c
theorem tch_at (M M' : Ms) (x y : Int) (f : Bool) : tchM M x y f x y = tchM M' x y f x y := by
  unfold tchM
  cases f
  · exact (upM_same _ _ _ _).trans (upM_same _ _ _ _).symm
  · exact (upM_same _ _ _ _).trans (upM_same _ _ _ _).symm
theorem tch_same {M : Ms} {x y : Int} {f : Bool} (h : M x y = tchM M x y f x y) : tchM M x y f = M := by
  funext a b
  by_cases t : a = x ∧ b = y
  · rw [t.1, t.2]; exact h.symm
  · unfold tchM
    split <;> exact upM_other t
section
variable {F : Nat → Prop} {w : World} {K N Nd bm R Re n : Nat} {M : Ms} {pk : Int} {Da Db : List Dv} {l : List Mk} {pr : Int}
theorem touch1 (h : Bx F w K N Nd bm R Re n M pk Da Db l pr) (h0 : ∀ b, F b → b < w.heap.size) (x y : Int) (f : Bool) (hn : n ≤ 2000000000000000) : Calls Tryz.prog 17 #[.pointer (some ⟨N, 0, none⟩), .agg #[.int .i64 x, .int .i64 y], .bool f] w fun e w' => e = .returned (.tuple #[]) ∧ ∃ n' M' pk', Bx F w' K N Nd bm R Re n' M' pk' Da Db l pr ∧ Stb Da x y f M' ∧ n' ≤ n + 2097153 ∧ Mut (fun b => b = N ∨ b = bm) w w' := by
  cases hm : mayC x y with
  | false =>
    refine (mtouch_no w N Nd bm n M pk Da (fun _ => True) x y f h.mm hm).mono ?_
    rintro e w' ⟨rfl, k1, k2⟩
    exact ⟨rfl, n, M, 0, (h.mmut h0 k2 k1 h.ok).1, (fun q => by rw [hm] at q; cases q), by omega, k2⟩
  | true =>
    have hxy := mayC_i64 hm
    refine (mtouch_yes w N Nd bm n M pk Da (fun b => b = N ∨ b = bm) x y f (fun M' _ _ => M' x y = tchM M x y f x y ∧ ∀ ks, IsWho (runE Da) x y ks → ∀ k ∈ ks, (k.r = x ∧ k.c = y) ∨ 2 ≤ stM M' k.r k.c) h.mm h.dw h.ok hxy.1 hxy.2 (.inl rfl) (.inr rfl) hm hn (fun ks n' hk => ?_) (fun M' s k p ks c hok q hk => ?_)).mono ?_
    · refine ⟨sprL_tx ks _, fun ks' hk' k hkm => ?_⟩
      rw [← hk.uniq hk'] at hkm
      by_cases t : k.r = x ∧ k.c = y
      · exact .inl t
      · exact .inr (sprL_all ks _ k hkm t)
    · refine ⟨(sprL_tx ks _).trans q.1, fun ks' hk' j hj => ?_⟩
      rcases q.2 ks' hk' j hj with t | t
      · exact .inl t
      · exact .inr (Int.le_trans t (sprL_up ks (M', s, c) j.r j.c))
    · rintro e w' ⟨rfl, M2, pk2, c, q, k1, k2, k3, _, _, k4⟩
      exact ⟨rfl, c, M2, pk2, (h.mmut h0 k4 k2 k1).1, fun _ => ⟨q.1.trans (tch_at M M2 x y f), q.2⟩, k3, k4⟩
theorem touch2 (h : Bx F w K N Nd bm R Re n M pk Da Db l pr) (h0 : ∀ b, F b → b < w.heap.size) (x y : Int) (f : Bool) (hn : n ≤ 2000000000000000) (hS : Stb Da x y f M) : Calls Tryz.prog 17 #[.pointer (some ⟨N, 0, none⟩), .agg #[.int .i64 x, .int .i64 y], .bool f] w fun e w' => e = .returned (.tuple #[]) ∧ ∃ n' pk', Bx F w' K N Nd bm R Re n' M pk' Da Db l pr ∧ pk' = 0 ∧ Mut (fun b => b = N ∨ b = bm) w w' := by
  cases hm : mayC x y with
  | false =>
    refine (mtouch_no w N Nd bm n M pk Da (fun _ => True) x y f h.mm hm).mono ?_
    rintro e w' ⟨rfl, k1, k2⟩
    exact ⟨rfl, n, 0, (h.mmut h0 k2 k1 h.ok).1, rfl, k2⟩
  | true =>
    have hxy := mayC_i64 hm
    obtain ⟨s1, s2⟩ := hS hm
    refine (mtouch_yes w N Nd bm n M pk Da (fun b => b = N ∨ b = bm) x y f (fun M' s p => s = [] ∧ M' = M ∧ p = 0) h.mm h.dw h.ok hxy.1 hxy.2 (.inl rfl) (.inr rfl) hm hn (fun ks n' hk => ?_) (fun M' s k p ks c hok q hk => absurd q.1 (by simp))).mono ?_
    · rw [tch_same s1, sprL_still ks _ (s2 ks hk)]
      exact ⟨rfl, rfl, rfl⟩
    · rintro e w' ⟨rfl, M2, pk2, c, ⟨_, rfl, rfl⟩, k1, k2, k3, _, _, k4⟩
      exact ⟨rfl, c, 0, (h.mmut h0 k4 k2 k1).1, rfl, k4⟩
theorem brefs (h : Bx F w K N Nd bm R Re n M pk Da Db l pr) (x y : Int) (hs : cst Db ≤ 1048576) : Calls Tryz.prog 9 #[.pointer (some ⟨Re, 0, none⟩), .agg #[.int .i64 x, .int .i64 y]] w fun e w' => ∃ q' n' c', e = .returned (.slice q' n' c') ∧ Below w.heap.size w w' := by
  obtain ⟨v, h1, h2, h3, h4⟩ := h.rm
  obtain ⟨q, n0, c, P, k1, k2, k3⟩ := h4.lst
  exact lrefs_any w Re q n0 c P x y k1 k2 (by have := edg_len k3; omega)
end
set_option maxRecDepth 100000 in
set_option maxHeartbeats 20000000 in
theorem mstop_walk (w : World) (v : Value) (l : List Dq) (x y : Int) (hv : DQw w v l) (hs : cst (l.map Dq.d) ≤ 1048576) (hx : I64 x) (hy : I64 y) : Calls Tryz.prog 5 #[v, .agg #[.int .i64 x, .int .i64 y]] w fun e w' => e = .returned (.bool true) ∧ Below w.heap.size w w' := by
  have mixed : Tryz.prog.follows .mixedOrders = true := by kernel_rfl
  obtain ⟨q, cap, rfl, hc1, hc2, hq, hw⟩ := hv
  obtain ⟨m, hm⟩ : ∃ m, m = l.length := ⟨_, rfl⟩
  rw [← hm] at hc1 hq
  have HM : Hid (m = l.length) := hm
  have HQ : Hid _ := hq
  have HW : Hid (∀ z ∈ l, DqW w z) := hw
  have HS : Hid (cst (l.map Dq.d) ≤ 1048576) := hs
  have hm2 : m ≤ 1048576 := by have := cst_ln (l.map Dq.d); rw [List.length_map] at this; omega
  have H1 : Hid (∀ W, Calls Tryz.prog 7 #[] W fun e w' => ∃ K N Nd bm R Re, e = .returned (.pointer (some ⟨K, 0, none⟩)) ∧ Bx (fun b => b < W.heap.size) w' K N Nd bm R Re 0 (fun _ _ => none) 0 [] [] [] 0 ∧ Below W.heap.size W w') := (show _ from fun W => lbegin_any W)
  have HLv : Hid (∀ W, Calls Tryz.prog 15 #[] W fun e w' => e = .returned (.bool true) ∧ Below W.heap.size W w') := (show _ from fun W => llives_any W)
  rw [← hm]
  clear hq hw hs hm
  go_enter Tryz.func5, Tryz.ntmps5
  go_wp2_with (go_at_call 7; refine (H1.out _).mono ?_; rintro e w1 ⟨K, N, Nd, bm, R, Re, rfl, p1, hb⟩; have hB1 : Below w.heap.size w w1 := bup zqb hb; have oX1 : Own w1 w.heap.size #[.int .i64 x, .int .i64 y] := Own.keep (by with_reducible (repeat' first | assumption | refine Own.drew ?_ | refine Own.drewN ?_ _ | (refine Own.at ?_; first | rfl | (simp; done)) | refine Own.past ?_ _)) hb; have HX1 : Hid (Bx (fun b => b < w.heap.size + 1) w1 K N Nd bm R Re 0 (fun _ _ => none) 0 [] [] [] 0) := (show Bx _ _ _ _ _ _ _ _ _ _ _ _ _ _ _ from p1.fresh (fun b q => .inl (by first | exact q | (simp; omega)))); have z1 := hB1.size; have oK1 := HX1.out.own; have k01 : w1.cell? ⟨K, 0, none⟩ = some (.pointer (some ⟨Nd, 0, none⟩)) := oK1.cell 0; have k11 : w1.cell? ⟨K, 1, none⟩ = some (.pointer (some ⟨N, 0, none⟩)) := oK1.cell 1; have k21 : w1.cell? ⟨K, 2, none⟩ = some (.pointer (some ⟨Re, 0, none⟩)) := oK1.cell 2; have k31 : w1.cell? ⟨K, 3, none⟩ = some (.pointer (some ⟨R, 0, none⟩)) := oK1.cell 3; have x01 : w1.cell? ⟨w.heap.size, 0, none⟩ = some (.int .i64 x) := oX1.cell 0; have x11 : w1.cell? ⟨w.heap.size, 1, none⟩ = some (.int .i64 y) := oX1.cell 1; have lK1 := oK1.lt; have lX1 := oX1.lt; clear oK1; clear p1 hb)
  go_loopw [6] (fun u w' => ∃ (i n : Nat) (M : Ms) (pk : Int) (D : List Dv) (l2 : List Mk) (pr : Int), u = .int .i64 i ∧ i ≤ m ∧ Hid (Bx (fun b => b < w.heap.size + 1) w' K N Nd bm R Re n M pk D D l2 pr) ∧ Hid (cst D ≤ cst ((l.map Dq.d).take i) ∧ n ≤ i * 2097153 ∧ l2.length ≤ i * 2097155) ∧ Hid (Own w' w.heap.size #[.int .i64 x, .int .i64 y]) ∧ Below w.heap.size w w') (fun u _ => m - (intOf u).toNat)
  case atStart => exact ⟨0, 0, _, 0, [], [], 0, rfl, by omega, HX1, (show _ ∧ _ ∧ _ from ⟨Nat.zero_le _, Nat.zero_le _, Nat.zero_le _⟩), oX1, hB1⟩
  case round =>
    clear HX1 oX1 hB1 H1 k01 k11 k21 k31 x01 x11 lK1 lX1
    obtain ⟨i, n, M, pk, D, l2, pr, rfl, hi, HX, HBd, HO, hB⟩ := hrel
    have zw := hB.size
    have oXw := HO.out
    have lXw := oXw.lt
    by_cases him : i < m
    · have him' : (i : Int) < m := by omega
      obtain ⟨d, hd⟩ : ∃ d, l[i]? = some d := ⟨_, List.getElem?_eq_getElem (by have := HM.out; omega)⟩
      obtain ⟨ab, ao, rfl, hab, hcl⟩ := HQ.out (by omega)
      have c0 : wr.cell? ⟨ab, ao + i * 5, none⟩ = some (.int .i64 d.k) := (hB.cell (p := ⟨ab, ao + i * 5, none⟩) hab).trans (hcl i d hd 0 _ rfl)
      have c1 : wr.cell? ⟨ab, ao + i * 5 + 1, none⟩ = some (.int .i64 d.d.r) := (hB.cell (p := ⟨ab, ao + i * 5 + 1, none⟩) hab).trans (hcl i d hd 1 _ rfl)
      have c2 : wr.cell? ⟨ab, ao + i * 5 + 2, none⟩ = some (.int .i64 d.d.c) := (hB.cell (p := ⟨ab, ao + i * 5 + 2, none⟩) hab).trans (hcl i d hd 2 _ rfl)
      have c3 : wr.cell? ⟨ab, ao + i * 5 + 3, none⟩ = some (.slice d.d.p d.d.n d.d.k) := (hB.cell (p := ⟨ab, ao + i * 5 + 3, none⟩) hab).trans (hcl i d hd 3 _ rfl)
      have c4 : wr.cell? ⟨ab, ao + i * 5 + 4, none⟩ = some (.bool d.f) := (hB.cell (p := ⟨ab, ao + i * 5 + 4, none⟩) hab).trans (hcl i d hd 4 _ rfl)
      have labr : ab < wr.heap.size := by omega
      have hW := HW.out d (List.mem_of_getElem? hd)
      have HCs : Hid (cst (D ++ [d.d]) ≤ cst ((l.map Dq.d).take (i + 1)) ∧ cst ((l.map Dq.d).take (i + 1)) ≤ 1048576 ∧ cst ((l.map Dq.d).take i) ≤ cst ((l.map Dq.d).take (i + 1))) := (show _ ∧ _ ∧ _ from by
        have e : (l.map Dq.d).take (i + 1) = (l.map Dq.d).take i ++ [d.d] := by rw [List.take_succ, List.getElem?_map, hd]; rfl
        have h1 := cst_tk (l.map Dq.d) (i + 1)
        have h2 := HS.out
        have h3 := HBd.out.1
        rw [e, cst_app] at h1 ⊢
        rw [cst_app]
        omega)
      have HDo : Hid (∀ W, Below wr.heap.size wr W → Calls Tryz.prog 11 #[.pointer (some ⟨K, 0, none⟩), .agg #[.int .i64 d.k, .int .i64 d.d.r, .int .i64 d.d.c, .slice d.d.p d.d.n d.d.k, .bool d.f]] W fun e w' => e = .returned (.tuple #[]) ∧ ∃ n' M' pk' D' l' pr', Bx (fun b => b < w.heap.size + 1) w' K N Nd bm R Re n' M' pk' D' D' l' pr' ∧ (D' = D ∨ D' = D ++ [d.d]) ∧ n' ≤ n + 2097153 ∧ l'.length ≤ l2.length + 2097155 ∧ Mut (fun b => ¬ (fun b => b < w.heap.size + 1) b) W w') := (show _ from fun W hb => ldoes_any (fun b => b < w.heap.size + 1) W K N Nd bm R Re n M pk D l2 pr d.k d.d d.f (HX.out.keep hb) (fun b q => by have := hb.size; omega) hW.1 hW.2.1 hW.2.2.1 (hW.2.2.2.keep ((hB.trans (hb.mono zw)))) (fun p n c e q => by have := hW.2.2.2.low e q; omega) (by have := HCs.out; omega) (by have := HBd.out.2.1; omega) (by have := HBd.out.2.2; omega))
      clear hd hcl hW
      go_wp2_with (go_at_call 11; refine (HDo.out _ zqb).mono ?_; rintro e w2 ⟨rfl, n', M', pk', D', l', pr', p1, p2, p3, p4, pm⟩; have HX2 : Hid (Bx (fun b => b < w.heap.size + 1) w2 K N Nd bm R Re n' M' pk' D' D' l' pr') := p1; have HB2 : Hid (cst D' ≤ cst ((l.map Dq.d).take (i + 1)) ∧ n' ≤ (i + 1) * 2097153 ∧ l'.length ≤ (i + 1) * 2097155) := (show _ ∧ _ ∧ _ from ⟨by have h1 := HCs.out; have h2 := HBd.out.1; rcases p2 with rfl | rfl <;> omega, by have := HBd.out.2.1; omega, by have := HBd.out.2.2; omega⟩); have hM2 : Mut (fun b => ¬ (fun b => b < w.heap.size + 1) b) wr w2 := (Mut.of_below zqb).call pm (fun b q => .inl q); have hB2 : Below w.heap.size w w2 := hB.trans (hM2.to_below zw (fun b q => by omega)); have oX2 : Own w2 w.heap.size #[.int .i64 x, .int .i64 y] := oXw.mut hM2 (fun q => q (by omega)); have z2 := hM2.size; clear p1 p2 p3 p4 pm)
      exact ⟨⟨i + 1, n', M', pk', D', l', pr', by go_num, by omega, (show Bx _ _ _ _ _ _ _ _ _ _ _ _ _ _ _ from HX2.out.keep zqb), HB2, (show Own _ _ _ from oX2.keep zqb), by with_reducible (repeat' first | assumption | exact Below.refl _ _ | refine Below.drew ?_ | refine bdrewN ?_ _ | refine Below.setCell ?_ (by first | exact Nat.le_refl _ | (simp; done) | (simp; omega) | omega) _ | refine Below.alloc ?_ (by first | exact Nat.le_refl _ | (simp; done) | (simp; omega) | omega) _)⟩, by simp [intOf]; omega⟩
    · have him' : ¬ ((i : Int) < m) := by omega
      have HD0 : Hid (cst D ≤ 1048576 ∧ n ≤ 1000000000000000) := (show _ ∧ _ from by
        have h1 := HBd.out
        have h2 := cst_tk (l.map Dq.d) i
        have h3 := HS.out
        omega)
      have gN := HX.out.ge.2.1
      have gB := HX.out.ge.2.2.1
      have HRf : Hid (∀ W, Below wr.heap.size wr W → Calls Tryz.prog 9 #[.pointer (some ⟨Re, 0, none⟩), .agg #[.int .i64 x, .int .i64 y]] W fun e w' => ∃ q' n' c', e = .returned (.slice q' n' c') ∧ Below W.heap.size W w') := (show _ from fun W hb => brefs (HX.out.keep hb) x y HD0.out.1)
      have oKw := HX.out.own
      have k0w : wr.cell? ⟨K, 0, none⟩ = some (.pointer (some ⟨Nd, 0, none⟩)) := oKw.cell 0
      have k1w : wr.cell? ⟨K, 1, none⟩ = some (.pointer (some ⟨N, 0, none⟩)) := oKw.cell 1
      have k2w : wr.cell? ⟨K, 2, none⟩ = some (.pointer (some ⟨Re, 0, none⟩)) := oKw.cell 2
      have k3w : wr.cell? ⟨K, 3, none⟩ = some (.pointer (some ⟨R, 0, none⟩)) := oKw.cell 3
      have x0w : wr.cell? ⟨w.heap.size, 0, none⟩ = some (.int .i64 x) := oXw.cell 0
      have x1w : wr.cell? ⟨w.heap.size, 1, none⟩ = some (.int .i64 y) := oXw.cell 1
      have lKw := oKw.lt
      have lXw := oXw.lt
      clear oKw
      go_wp2
      go_region_held3 (fun w' => w'.cell? ⟨K, 0, none⟩ = some (.pointer (some ⟨Nd, 0, none⟩)) ∧ w'.cell? ⟨K, 1, none⟩ = some (.pointer (some ⟨N, 0, none⟩)) ∧ w'.cell? ⟨K, 2, none⟩ = some (.pointer (some ⟨Re, 0, none⟩)) ∧ w'.cell? ⟨K, 3, none⟩ = some (.pointer (some ⟨R, 0, none⟩)) ∧ w'.cell? ⟨w.heap.size, 0, none⟩ = some (.int .i64 x) ∧ w'.cell? ⟨w.heap.size, 1, none⟩ = some (.int .i64 y)) ((repeat' apply And.intro) <;> (first | (go_keep; done) | (go_simp; done))) ((go_at_call 9; refine (HRf.out _ zqb).mono ?_; rintro e w3 ⟨qr, nr, cr, rfl, hb⟩; have hR3 : Below wr.heap.size wr w3 := bup zqb hb; have HX3 : Hid (Bx (fun b => b < w.heap.size + 1) w3 K N Nd bm R Re n M pk D D l2 pr) := (show Bx _ _ _ _ _ _ _ _ _ _ _ _ _ _ _ from HX.out.keep hR3); have oX3 : Own w3 w.heap.size #[.int .i64 x, .int .i64 y] := oXw.keep hR3; have hB3 : Below w.heap.size w w3 := hB.trans (hR3.mono zw); have z3 := hR3.size; have oK3 := HX3.out.own; have k03 : w3.cell? ⟨K, 0, none⟩ = some (.pointer (some ⟨Nd, 0, none⟩)) := oK3.cell 0; have k13 : w3.cell? ⟨K, 1, none⟩ = some (.pointer (some ⟨N, 0, none⟩)) := oK3.cell 1; have k23 : w3.cell? ⟨K, 2, none⟩ = some (.pointer (some ⟨Re, 0, none⟩)) := oK3.cell 2; have k33 : w3.cell? ⟨K, 3, none⟩ = some (.pointer (some ⟨R, 0, none⟩)) := oK3.cell 3; have x03 : w3.cell? ⟨w.heap.size, 0, none⟩ = some (.int .i64 x) := oX3.cell 0; have x13 : w3.cell? ⟨w.heap.size, 1, none⟩ = some (.int .i64 y) := oX3.cell 1; have lK3 := oK3.lt; have lX3 := oX3.lt; clear oK3; clear hb))
      have gN2 : w.heap.size + 1 ≤ N := Nat.le_of_not_lt gN
      have gB2 : w.heap.size + 1 ≤ bm := Nat.le_of_not_lt gB
      have HT1 : Hid (∀ W, Below w3.heap.size w3 W → ∀ f, Calls Tryz.prog 17 #[.pointer (some ⟨N, 0, none⟩), .agg #[.int .i64 x, .int .i64 y], .bool f] W fun e w' => e = .returned (.tuple #[]) ∧ ∃ n' M' pk', Bx (fun b => b < w.heap.size + 1) w' K N Nd bm R Re n' M' pk' D D l2 pr ∧ Stb D x y f M' ∧ n' ≤ n + 2097153 ∧ Mut (fun b => b = N ∨ b = bm) W w') := (show _ from fun W hb f => touch1 (HX3.out.keep hb) (fun b q => by have := hb.size; omega) x y f (by have := HD0.out; omega))
      clear HX HBd HO HRf k0w k1w k2w k3w x0w x1w lKw
      go_wp2
      go_region_held3 (fun w' => w'.cell? ⟨K, 0, none⟩ = some (.pointer (some ⟨Nd, 0, none⟩)) ∧ w'.cell? ⟨K, 1, none⟩ = some (.pointer (some ⟨N, 0, none⟩)) ∧ w'.cell? ⟨K, 2, none⟩ = some (.pointer (some ⟨Re, 0, none⟩)) ∧ w'.cell? ⟨K, 3, none⟩ = some (.pointer (some ⟨R, 0, none⟩)) ∧ w'.cell? ⟨w.heap.size, 0, none⟩ = some (.int .i64 x) ∧ w'.cell? ⟨w.heap.size, 1, none⟩ = some (.int .i64 y)) ((repeat' apply And.intro) <;> (first | (go_keep; done) | (go_simp; done))) ((go_at_call 17; refine (HT1.out _ zqb _).mono ?_; rintro e w4 ⟨rfl, n4, M4, pk4, p1, p2, p3, pm⟩; have HX4 : Hid (Bx (fun b => b < w.heap.size + 1) w4 K N Nd bm R Re n4 M4 pk4 D D l2 pr) := p1; have HS4 : Hid (Stb D x y (decide (0 < nr)) M4) := p2; have HN4 : Hid (n4 ≤ n + 2097153) := p3; have hM4 : Mut (fun b => b = N ∨ b = bm) w3 w4 := (Mut.of_below zqb).call pm (fun b q => .inl q); have z4 := hM4.size; have hB4 : Below w.heap.size w w4 := hB3.trans (hM4.to_below (by omega) (fun b q => by omega)); have oX4 : Own w4 w.heap.size #[.int .i64 x, .int .i64 y] := oX3.mut hM4 (fun q => by omega); have oK4 := HX4.out.own; have k04 : w4.cell? ⟨K, 0, none⟩ = some (.pointer (some ⟨Nd, 0, none⟩)) := oK4.cell 0; have k14 : w4.cell? ⟨K, 1, none⟩ = some (.pointer (some ⟨N, 0, none⟩)) := oK4.cell 1; have k24 : w4.cell? ⟨K, 2, none⟩ = some (.pointer (some ⟨Re, 0, none⟩)) := oK4.cell 2; have k34 : w4.cell? ⟨K, 3, none⟩ = some (.pointer (some ⟨R, 0, none⟩)) := oK4.cell 3; have x04 : w4.cell? ⟨w.heap.size, 0, none⟩ = some (.int .i64 x) := oX4.cell 0; have x14 : w4.cell? ⟨w.heap.size, 1, none⟩ = some (.int .i64 y) := oX4.cell 1; have lK4 := oK4.lt; have lX4 := oX4.lt; clear oK4; clear p1 p2 p3 pm))
      clear HT1 hB3 HX3 oX3 k03 k13 k23 k33 x03 x13 lK3 lX3
      go_wp2_with (go_at_call 18; refine (mall_any _ N Nd bm n4 M4 pk4 (HX4.out.keep zqb).mm HX4.out.ok).mono ?_; rintro e w5 ⟨vv, rfl, ks, p1, p2, hb⟩; obtain ⟨q0, c0, rfl, hc1, hc2, _⟩ := RowG.view (mkS_len M4) p1; obtain ⟨m5, hm5⟩ : ∃ m5, m5 = ks.length := ⟨_, rfl⟩; rw [← hm5] at p1 hc1 ⊢; have HM5 : Hid (m5 = ks.length) := hm5; have HK5 : Hid (IsAll M4 ks) := p2; have hR5 : Below w4.heap.size w4 w5 := bup zqb hb; have HV5 : Hid (RowMk M4 w5 w4.heap.size (.slice q0 m5 c0) ks) := (show RowG _ _ _ _ _ _ _ from RowG.mono p1 (by first | omega | (simp; omega))); have HX5 : Hid (Bx (fun b => b < w.heap.size + 1) w5 K N Nd bm R Re n4 M4 pk4 D D l2 pr) := (show Bx _ _ _ _ _ _ _ _ _ _ _ _ _ _ _ from HX4.out.keep hR5); have oX5 : Own w5 w.heap.size #[.int .i64 x, .int .i64 y] := oX4.keep hR5; have hB5 : Below w.heap.size w w5 := hB4.trans (hR5.mono (by omega)); have z5 := hR5.size; have oK5 := HX5.out.own; have k05 : w5.cell? ⟨K, 0, none⟩ = some (.pointer (some ⟨Nd, 0, none⟩)) := oK5.cell 0; have k15 : w5.cell? ⟨K, 1, none⟩ = some (.pointer (some ⟨N, 0, none⟩)) := oK5.cell 1; have k25 : w5.cell? ⟨K, 2, none⟩ = some (.pointer (some ⟨Re, 0, none⟩)) := oK5.cell 2; have k35 : w5.cell? ⟨K, 3, none⟩ = some (.pointer (some ⟨R, 0, none⟩)) := oK5.cell 3; have x05 : w5.cell? ⟨w.heap.size, 0, none⟩ = some (.int .i64 x) := oX5.cell 0; have x15 : w5.cell? ⟨w.heap.size, 1, none⟩ = some (.int .i64 y) := oX5.cell 1; have lK5 := oK5.lt; have lX5 := oX5.lt; clear oK5; clear p1 p2 hb hm5)
      have HT2 : Hid (∀ W, Below w5.heap.size w5 W → Calls Tryz.prog 17 #[.pointer (some ⟨N, 0, none⟩), .agg #[.int .i64 x, .int .i64 y], .bool (decide (0 < nr))] W fun e w' => e = .returned (.tuple #[]) ∧ ∃ n' pk', Bx (fun b => b < w.heap.size + 1) w' K N Nd bm R Re n' M4 pk' D D l2 pr ∧ pk' = 0 ∧ Mut (fun b => b = N ∨ b = bm) W w') := (show _ from fun W hb => touch2 (HX5.out.keep hb) (fun b q => by have := hb.size; omega) x y _ (by have := HD0.out; have := HN4.out; omega) HS4.out)
      have lN4 : N < w4.heap.size := HX4.out.mm.own.lt
      have lB4 : bm < w4.heap.size := MapF.lt HX4.out.mm.map
      clear HX4 oX4 hB4 k04 k14 k24 k34 x04 x14 lK4 lX4
      go_wp2
      go_region_held3 (fun w' => w'.cell? ⟨K, 0, none⟩ = some (.pointer (some ⟨Nd, 0, none⟩)) ∧ w'.cell? ⟨K, 1, none⟩ = some (.pointer (some ⟨N, 0, none⟩)) ∧ w'.cell? ⟨K, 2, none⟩ = some (.pointer (some ⟨Re, 0, none⟩)) ∧ w'.cell? ⟨K, 3, none⟩ = some (.pointer (some ⟨R, 0, none⟩)) ∧ w'.cell? ⟨w.heap.size, 0, none⟩ = some (.int .i64 x) ∧ w'.cell? ⟨w.heap.size, 1, none⟩ = some (.int .i64 y)) ((repeat' apply And.intro) <;> (first | (go_keep; done) | (go_simp; done))) ((go_at_call 17; refine (HT2.out _ zqb).mono ?_; rintro e w6 ⟨rfl, n6, pk6, p1, p2, pm⟩; subst p2; have HX6 : Hid (Bx (fun b => b < w.heap.size + 1) w6 K N Nd bm R Re n6 M4 0 D D l2 pr) := p1; have hM6 : Mut (fun b => b = N ∨ b = bm) w5 w6 := (Mut.of_below zqb).call pm (fun b q => .inl q); have z6 := hM6.size; have hB6 : Below w.heap.size w w6 := hB5.trans (hM6.to_below (by omega) (fun b q => by omega)); have oX6 : Own w6 w.heap.size #[.int .i64 x, .int .i64 y] := oX5.mut hM6 (fun q => by omega); have HV6 : Hid (RowMk M4 w6 w4.heap.size (.slice q0 m5 c0) ks) := (show RowG _ _ _ _ _ _ _ from RowG.mut HV5.out hM6 (fun b q s => by have := (RowG.lt HV5.out b q).1; omega)); have oK6 := HX6.out.own; have k06 : w6.cell? ⟨K, 0, none⟩ = some (.pointer (some ⟨Nd, 0, none⟩)) := oK6.cell 0; have k16 : w6.cell? ⟨K, 1, none⟩ = some (.pointer (some ⟨N, 0, none⟩)) := oK6.cell 1; have k26 : w6.cell? ⟨K, 2, none⟩ = some (.pointer (some ⟨Re, 0, none⟩)) := oK6.cell 2; have k36 : w6.cell? ⟨K, 3, none⟩ = some (.pointer (some ⟨R, 0, none⟩)) := oK6.cell 3; have x06 : w6.cell? ⟨w.heap.size, 0, none⟩ = some (.int .i64 x) := oX6.cell 0; have x16 : w6.cell? ⟨w.heap.size, 1, none⟩ = some (.int .i64 y) := oX6.cell 1; have lK6 := oK6.lt; have lX6 := oX6.lt; clear oK6; clear p1 pm))
      clear HT2 hB5 HX5 oX5 HV5 k05 k15 k25 k35 x05 x15 lK5 lX5
      go_wp2_with (go_at_call 18; refine (mall_any _ N Nd bm n6 M4 0 (HX6.out.keep zqb).mm HX6.out.ok).mono ?_; rintro e w7 ⟨vv, rfl, ls, p1, p2, hb⟩; obtain rfl := HK5.out.uniq p2; obtain ⟨q1, c1, rfl, hc3, hc4, _⟩ := RowG.view (mkS_len M4) p1; have em5 : m5 = ks.length := HM5.out; rw [← em5] at p1 hc3 ⊢; have hR7 : Below w6.heap.size w6 w7 := bup zqb hb; have HV7 : Hid (RowMk M4 w7 w4.heap.size (.slice q0 m5 c0) ks) := (show RowG _ _ _ _ _ _ _ from RowG.keep HV6.out hR7); have HV8 : Hid (RowMk M4 w7 w4.heap.size (.slice q1 m5 c1) ks) := (show RowG _ _ _ _ _ _ _ from RowG.mono p1 (by first | omega | (simp; omega))); have HX7 : Hid (Bx (fun b => b < w.heap.size + 1) w7 K N Nd bm R Re n6 M4 0 D D l2 pr) := (show Bx _ _ _ _ _ _ _ _ _ _ _ _ _ _ _ from HX6.out.keep hR7); have oX7 : Own w7 w.heap.size #[.int .i64 x, .int .i64 y] := oX6.keep hR7; have hB7 : Below w.heap.size w w7 := hB6.trans (hR7.mono (by omega)); have z7 := hR7.size; have oK7 := HX7.out.own; have k07 : w7.cell? ⟨K, 0, none⟩ = some (.pointer (some ⟨Nd, 0, none⟩)) := oK7.cell 0; have k17 : w7.cell? ⟨K, 1, none⟩ = some (.pointer (some ⟨N, 0, none⟩)) := oK7.cell 1; have k27 : w7.cell? ⟨K, 2, none⟩ = some (.pointer (some ⟨Re, 0, none⟩)) := oK7.cell 2; have k37 : w7.cell? ⟨K, 3, none⟩ = some (.pointer (some ⟨R, 0, none⟩)) := oK7.cell 3; have x07 : w7.cell? ⟨w.heap.size, 0, none⟩ = some (.int .i64 x) := oX7.cell 0; have x17 : w7.cell? ⟨w.heap.size, 1, none⟩ = some (.int .i64 y) := oX7.cell 1; have lK7 := oK7.lt; have lX7 := oX7.lt; clear oK7; clear p1 p2 hb em5)
      clear hB6 HX6 oX6 HV6 k06 k16 k26 k36 x06 x16 lK6 lX6
      have HV9 : Hid (∀ W, Below w7.heap.size w7 W → ∀ i k, ks[i]? = some k → ∃ g g', q0 = some ⟨g, 0, none⟩ ∧ q1 = some ⟨g', 0, none⟩ ∧ g < w7.heap.size ∧ g' < w7.heap.size ∧ ∀ j u, (mkS M4 k)[j]? = some u → W.cell? ⟨g, i * 3 + j, none⟩ = some u ∧ W.cell? ⟨g', i * 3 + j, none⟩ = some u) := (show _ from fun W hb i k hk => by
        have hi : i < m5 := by
          have := List.getElem?_eq_some_iff.1 hk
          obtain ⟨t, _⟩ := this
          have := HM5.out
          omega
        obtain ⟨g, e1, hg, hc⟩ := (RowG.viewQ (mkS_len M4) HV7.out).2.2.2 (by omega)
        obtain ⟨g', e2, hg', hc'⟩ := (RowG.viewQ (mkS_len M4) HV8.out).2.2.2 (by omega)
        exact ⟨g, g', e1, e2, hg, hg', fun j u hu => ⟨(hb.cell (p := ⟨g, i * 3 + j, none⟩) hg).trans (hc i k hk j u hu), (hb.cell (p := ⟨g', i * 3 + j, none⟩) hg').trans (hc' i k hk j u hu)⟩⟩)
      clear HV7 HV8
      go_loopw [10] (fun u w' => ∃ i : Nat, u = .int .i64 i ∧ i ≤ m5 ∧ Below w7.heap.size w7 w') (fun u _ => m5 - (intOf u).toNat)
      case atStart => exact ⟨0, rfl, by omega, by with_reducible (repeat' first | assumption | exact Below.refl _ _ | refine Below.drew ?_ | refine bdrewN ?_ _ | refine Below.setCell ?_ (by first | exact Nat.le_refl _ | (simp; done) | (simp; omega) | omega) _ | refine Below.alloc ?_ (by first | exact Nat.le_refl _ | (simp; done) | (simp; omega) | omega) _)⟩
      case round =>
        obtain ⟨i5, rfl, hi5, hR⟩ := hrel
        have zr := hR.size
        by_cases him5 : i5 < m5
        · have him6 : (i5 : Int) < m5 := by omega
          obtain ⟨k, hk⟩ : ∃ k, ks[i5]? = some k := ⟨_, List.getElem?_eq_getElem (by have := HM5.out; omega)⟩
          obtain ⟨ga, gb, rfl, rfl, hga, hgb, hcl⟩ := HV9.out _ hR i5 k hk
          have ya0 : wr.cell? ⟨ga, i5 * 3, none⟩ = some (.int .i64 k.r) := (hcl 0 _ rfl).1
          have ya1 : wr.cell? ⟨ga, i5 * 3 + 1, none⟩ = some (.int .i64 k.c) := (hcl 1 _ rfl).1
          have ya2 : wr.cell? ⟨ga, i5 * 3 + 2, none⟩ = some (.int .i64 (stM M4 k.r k.c)) := (hcl 2 _ rfl).1
          have yb0 : wr.cell? ⟨gb, i5 * 3, none⟩ = some (.int .i64 k.r) := (hcl 0 _ rfl).2
          have yb1 : wr.cell? ⟨gb, i5 * 3 + 1, none⟩ = some (.int .i64 k.c) := (hcl 1 _ rfl).2
          have yb2 : wr.cell? ⟨gb, i5 * 3 + 2, none⟩ = some (.int .i64 (stM M4 k.r k.c)) := (hcl 2 _ rfl).2
          have he := neMkS k.r k.c (stM M4 k.r k.c)
          have lga : ga < wr.heap.size := by omega
          have lgb : gb < wr.heap.size := by omega
          clear hk hcl
          go_wp2
          go_quiet (fail)
          go_wp2
          all_goals exact ⟨⟨i5 + 1, by go_num, by omega, by with_reducible (repeat' first | assumption | exact Below.refl _ _ | refine Below.drew ?_ | refine bdrewN ?_ _ | refine Below.setCell ?_ (by first | exact Nat.le_refl _ | (simp; done) | (simp; omega) | omega) _ | refine Below.alloc ?_ (by first | exact Nat.le_refl _ | (simp; done) | (simp; omega) | omega) _)⟩, by simp [intOf]; omega⟩
        · have him6 : ¬ ((i5 : Int) < m5) := by omega
          have hB8 : Below w.heap.size w wr := hB7.trans (hR.mono (by omega))
          have HXr : Hid (Bx (fun b => b < w.heap.size + 1) wr K N Nd bm R Re n6 M4 0 D D l2 pr) := (show Bx _ _ _ _ _ _ _ _ _ _ _ _ _ _ _ from HX7.out.keep hR)
          have oXr : Own wr w.heap.size #[.int .i64 x, .int .i64 y] := oX7.keep hR
          have HPk : Hid (∀ W, Below wr.heap.size wr W → Calls Tryz.prog 16 #[.pointer (some ⟨N, 0, none⟩)] W fun e w' => e = .returned (.int .i64 0) ∧ Below W.heap.size W w') := (show _ from fun W hb => mpeak_any W N Nd bm n6 M4 0 (HXr.out.mm.keep hb))
          have oKr := HXr.out.own
          have k0r : wr.cell? ⟨K, 0, none⟩ = some (.pointer (some ⟨Nd, 0, none⟩)) := oKr.cell 0
          have k1r : wr.cell? ⟨K, 1, none⟩ = some (.pointer (some ⟨N, 0, none⟩)) := oKr.cell 1
          have k2r : wr.cell? ⟨K, 2, none⟩ = some (.pointer (some ⟨Re, 0, none⟩)) := oKr.cell 2
          have k3r : wr.cell? ⟨K, 3, none⟩ = some (.pointer (some ⟨R, 0, none⟩)) := oKr.cell 3
          have x0r : wr.cell? ⟨w.heap.size, 0, none⟩ = some (.int .i64 x) := oXr.cell 0
          have x1r : wr.cell? ⟨w.heap.size, 1, none⟩ = some (.int .i64 y) := oXr.cell 1
          have lKr := oKr.lt
          have lXr := oXr.lt
          clear oKr
          clear HX7 oX7 hB7 hR k07 k17 k27 k37 x07 x17 lK7 lX7
          by_cases e1 : x < 1
          · go_wp2_with (go_at_call 15; refine (HLv.out _).mono ?_; rintro e w9 ⟨rfl, hb⟩; have hB9 : Below w.heap.size w w9 := bup zqb hb; clear hb)
            go_ret
            exact ⟨rfl, by with_reducible (repeat' first | assumption | exact Below.refl _ _ | refine Below.drew ?_ | refine bdrewN ?_ _ | refine Below.setCell ?_ (by first | exact Nat.le_refl _ | (simp; done) | (simp; omega) | omega) _ | refine Below.alloc ?_ (by first | exact Nat.le_refl _ | (simp; done) | (simp; omega) | omega) _)⟩
          by_cases e2 : 4096 < x
          · go_wp2_with (go_at_call 15; refine (HLv.out _).mono ?_; rintro e w9 ⟨rfl, hb⟩; have hB9 : Below w.heap.size w w9 := bup zqb hb; clear hb)
            go_ret
            exact ⟨rfl, by with_reducible (repeat' first | assumption | exact Below.refl _ _ | refine Below.drew ?_ | refine bdrewN ?_ _ | refine Below.setCell ?_ (by first | exact Nat.le_refl _ | (simp; done) | (simp; omega) | omega) _ | refine Below.alloc ?_ (by first | exact Nat.le_refl _ | (simp; done) | (simp; omega) | omega) _)⟩
          by_cases e3 : y < 1
          · go_wp2_with (go_at_call 15; refine (HLv.out _).mono ?_; rintro e w9 ⟨rfl, hb⟩; have hB9 : Below w.heap.size w w9 := bup zqb hb; clear hb)
            go_ret
            exact ⟨rfl, by with_reducible (repeat' first | assumption | exact Below.refl _ _ | refine Below.drew ?_ | refine bdrewN ?_ _ | refine Below.setCell ?_ (by first | exact Nat.le_refl _ | (simp; done) | (simp; omega) | omega) _ | refine Below.alloc ?_ (by first | exact Nat.le_refl _ | (simp; done) | (simp; omega) | omega) _)⟩
          by_cases e4 : 256 < y
          · go_wp2_with (go_at_call 15; refine (HLv.out _).mono ?_; rintro e w9 ⟨rfl, hb⟩; have hB9 : Below w.heap.size w w9 := bup zqb hb; clear hb)
            go_ret
            exact ⟨rfl, by with_reducible (repeat' first | assumption | exact Below.refl _ _ | refine Below.drew ?_ | refine bdrewN ?_ _ | refine Below.setCell ?_ (by first | exact Nat.le_refl _ | (simp; done) | (simp; omega) | omega) _ | refine Below.alloc ?_ (by first | exact Nat.le_refl _ | (simp; done) | (simp; omega) | omega) _)⟩
          go_wp2_with (first | (go_at_call 16; refine (HPk.out _ zqb).mono ?_; rintro e w8 ⟨rfl, hb⟩; have hB9 : Below wr.heap.size wr w8 := bup zqb hb; have hB11 : Below w.heap.size w w8 := hB8.trans (hB9.mono (by omega)); have z8 := hB9.size; clear hb) | (go_at_call 15; refine (HLv.out _).mono ?_; rintro e w9 ⟨rfl, hb⟩; have hB10 : Below w.heap.size w w9 := bup zqb hb; clear hb))
          go_ret
          exact ⟨rfl, by with_reducible (repeat' first | assumption | exact Below.refl _ _ | refine Below.drew ?_ | refine bdrewN ?_ _ | refine Below.setCell ?_ (by first | exact Nat.le_refl _ | (simp; done) | (simp; omega) | omega) _ | refine Below.alloc ?_ (by first | exact Nat.le_refl _ | (simp; done) | (simp; omega) | omega) _)⟩
end Go.Proofs.YtcjanaldjokllaaGreat
