/- The contract of Remove. · Lists that are answered: one more behind a row; pairs as edges; the pairs, seat by seat. -/
import Derived.Test.YtcjanaldjokllaaGreatQCA
namespace Go.Proofs.YtcjanaldjokllaaGreat
open Go.RowKit
set_option linter.all false

def remB (P : List Pr) (p : Pr) : Bool := hasF (fP p) P
def remR (P : List Pr) (p : Pr) : List Pr := if remB P p = true then dropP P p else P
/-- The crowds up to this one have one less of the cell. -/
def nnB (NN : Nat → Int → Int → Nat) (r c : Int) (b0 a : Nat) : Nat → Int → Int → Nat := fun j r' c' => if (r' = r ∧ c' = c) ∧ (j = 0 ∨ (b0 + 1 ≤ j ∧ j ≤ a)) then NN j r c - 1 else NN j r' c'
theorem nb_zero (NN : Nat → Int → Int → Nat) (r c : Int) (b0 : Nat) : updN NN 0 r c (NN 0 r c - 1) = nnB NN r c b0 b0 := by
  funext j r' c'
  unfold updN nnB
  by_cases hj : j = 0
  · subst hj
    rw [if_pos rfl]
    by_cases e : r' = r ∧ c' = c
    · obtain ⟨rfl, rfl⟩ := e
      rw [upd_s, if_pos ⟨⟨rfl, rfl⟩, .inl rfl⟩]
    · rw [upd_o _ _ e, if_neg (fun q => e q.1)]
  · rw [if_neg hj, if_neg (by omega)]
theorem nb_at (NN : Nat → Int → Int → Nat) (r c : Int) (b0 a : Nat) (j : Nat) (hj : ¬ (j = 0 ∨ (b0 + 1 ≤ j ∧ j ≤ a))) : nnB NN r c b0 a j r c = NN j r c := by unfold nnB; rw [if_neg (fun q => hj q.2)]
theorem nb_step (NN : Nat → Int → Int → Nat) (r c : Int) (b0 a : Nat) (h : b0 ≤ a) : updN (nnB NN r c b0 a) (1 + a) r c (nnB NN r c b0 a (1 + a) r c - 1) = nnB NN r c b0 (a + 1) := by
  rw [nb_at NN r c b0 a (1 + a) (by omega)]
  funext j r' c'
  unfold updN
  by_cases hj : j = 1 + a
  · subst hj
    rw [if_pos rfl]
    by_cases e : r' = r ∧ c' = c
    · obtain ⟨rfl, rfl⟩ := e
      rw [upd_s]
      unfold nnB
      rw [if_pos ⟨⟨rfl, rfl⟩, .inr (by omega)⟩]
    · rw [upd_o _ _ e]
      unfold nnB
      rw [if_neg (fun q => e q.1), if_neg (fun q => e q.1)]
  · rw [if_neg hj]
    unfold nnB
    by_cases e : (r' = r ∧ c' = c) ∧ (j = 0 ∨ (b0 + 1 ≤ j ∧ j ≤ a))
    · rw [if_pos e, if_pos (by omega)]
    · rw [if_neg e, if_neg (by omega)]
theorem nb_end {P : List Pr} (hs : SrtP P) (p : Pr) (h : hasF (fP p) P = true) (NN : Nat → Int → Int → Nat) (hN : ∀ j r c, j < 65 → NN j r c = cnt j P r c) (b0 b1 : Nat) (h0 : (p.t - 1) / 64 = (b0 : Int)) (h1 : (p.b - 1) / 64 = (b1 : Int)) : ∀ j r c, j < 65 → nnB NN p.r p.c b0 (b1 + 1) j r c = cnt j (dropP P p) r c := by
  intro j r c hj
  unfold nnB
  by_cases e : r = p.r ∧ c = p.c
  · obtain ⟨rfl, rfl⟩ := e
    have hc := cnt_drop hs p h j
    rw [hN j _ _ hj]
    cases j with
    | zero => rw [if_pos ⟨⟨rfl, rfl⟩, .inl rfl⟩, hc]; simp [inBd]
    | succ i =>
      have hb : inBd (i + 1) p.rct = decide (b0 ≤ i ∧ i ≤ b1) := by
        show decide ((p.t - 1) / 64 ≤ (i : Int) ∧ (i : Int) ≤ (p.b - 1) / 64) = _
        rw [h0, h1]
        apply decide_eq_decide.2
        omega
      rw [hb] at hc
      by_cases q : b0 ≤ i ∧ i ≤ b1
      · rw [if_pos (by simpa using q)] at hc
        rw [if_pos ⟨⟨rfl, rfl⟩, .inr (by omega)⟩]; omega
      · rw [if_neg (by simpa using q)] at hc
        rw [if_neg (by omega)]; omega
  · rw [if_neg (fun q => e q.1), cnt_drop_o hs p j e, hN j _ _ hj]
/-- In each crowd of its rows the cell is counted. -/
theorem nb_pos {P : List Pr} (hs : SrtP P) (p : Pr) (h : hasF (fP p) P = true) (NN : Nat → Int → Int → Nat) (hN : ∀ j r c, j < 65 → NN j r c = cnt j P r c) (b0 b1 : Nat) (h0 : (p.t - 1) / 64 = (b0 : Int)) (h1 : (p.b - 1) / 64 = (b1 : Int)) (j : Nat) (hj : j < 65) (hb : j = 0 ∨ (b0 + 1 ≤ j ∧ j ≤ b1 + 1)) : 0 < NN j p.r p.c := by
  rw [hN j _ _ hj, cnt_drop hs p h j]
  have : inBd j p.rct = true := by
    cases j with
    | zero => rfl
    | succ i =>
      show decide ((p.t - 1) / 64 ≤ (i : Int) ∧ (i : Int) ≤ (p.b - 1) / 64) = true
      rw [h0, h1]
      exact decide_eq_true (by omega)
  rw [if_pos this]; omega
theorem st_leave {w W : World} {N : Nat} {D D' : Nat → Option Tag} {K : KF} {NN : Nat → Int → Int → Nat} {m : Nat} {A B : Array Value} (h : St w W N D D' K NN m A B) (j : Nat) (r c : Int) (k : Lo) (hj : j < 65) (hk : K r c = some k) (hb : 0 < NN j r c) (hm : m ≤ 4000000000000) :
    Calls Tryz.prog 63 #[.pointer (some ⟨N, j, none⟩), .pointer (some ⟨k.g, 0, none⟩)] W fun e w' => e = .returned (.tuple #[]) ∧ ∃ D2, St w w' N D D2 K (updN NN j r c (NN j r c - 1)) m A B := by
  refine (mw_leave W N D' K NN m j r c k h.mw hj hk hb hm).mono ?_
  rintro e w' ⟨rfl, ho⟩
  exact ⟨rfl, h.step ho⟩
theorem st_rem {w W : World} {N : Nat} {D D' : Nat → Option Tag} {K : KF} {NN : Nat → Int → Int → Nat} {m : Nat} {A B : Array Value} {P : List Pr} {p : Pr} {k : Lo} (h : St w W N D D' K NN m A B) (hs : SrtP P) (hh : hasF (fP p) P = true) (hk : K p.r p.c = some k) (hl : k.l = rectsAt P p.r p.c) (hf : P.length ≤ m) (hm : m ≤ 4000000000000) :
    Calls Tryz.prog 62 #[.pointer (some ⟨k.g, 0, none⟩), .agg #[.int .i64 p.t, .int .i64 p.l, .int .i64 p.b, .int .i64 p.q]] W fun e w' => e = .returned (.bool true) ∧ ∃ D2 K2 k2, St w w' N D D2 K2 NN m A B ∧ K2 p.r p.c = some k2 ∧ k2.g = k.g ∧ k2.l = rectsAt (dropP P p) p.r p.c ∧ ∀ r c, ¬ (r = p.r ∧ c = p.c) → K2 r c = K r c := by
  have hlo := h.mw.lo _ _ _ hk
  have hkv : k.v.ownBlock ≠ some k.g := fun q => by
    have h1 := hlo.rt _ q
    rw [hlo.tag] at h1
    injection h1 with h1
    injection h1 with h1 _
    cases h1
  have hlen : k.l.length ≤ P.length := by rw [hl]; exact rects_len _ _ _
  refine (lrem_yes W k.g p.r p.c k.v k.l p.t p.l p.b p.q hlo.own hlo.row hkv (by omega) (hlo.srt.mono _ _ _ _) (by rw [hl]; exact (rects_has P p).trans hh)).mono ?_
  rintro e w' hp
  have e1 : loF (fR p.t p.l p.b p.q) k.l ++ hiF (fR p.t p.l p.b p.q) k.l = rectsAt (dropP P p) p.r p.c := by rw [hl]; exact (rects_drop P p).symm
  rw [e1] at hp
  have he := hp.1
  obtain ⟨v', ho⟩ := h.mw.look (m' := m) hk hp (rects_srt (dropP_srt hs p) _ _) (by have h1 := rects_len (dropP P p) p.r p.c; have h2 := dropP_len (P := P) p; omega) (Nat.le_refl _)
  obtain ⟨D2, h2⟩ := h.step ho
  exact ⟨he, D2, _, _, h2, upd_s _ _ _ _, rfl, rfl, fun r c q => upd_o _ _ q⟩
theorem st_gone {w W : World} {N : Nat} {D D' : Nat → Option Tag} {K : KF} {NN : Nat → Int → Int → Nat} {m : Nat} {A B : Array Value} {P : List Pr} {p : Pr} {k : Lo} {b0 b1 : Nat} {NN0 : Nat → Int → Int → Nat} (h : St w W N D D' K NN m A B) (hs : SrtP P) (hh : hasF (fP p) P = true) (hf : P.length ≤ m) (hmay : ∀ p ∈ P, mayC p.r p.c = true ∧ mayR p.t p.l p.b p.q = true)
    (hk : K p.r p.c = some k) (hl : k.l = rectsAt (dropP P p) p.r p.c) (hK0 : ∀ r c, ¬ (r = p.r ∧ c = p.c) → rectsAt P r c = [] → K r c = none) (hK1 : ∀ r c, ¬ (r = p.r ∧ c = p.c) → rectsAt P r c ≠ [] → ∃ k, K r c = some k ∧ k.l = rectsAt P r c)
    (h0 : (p.t - 1) / 64 = (b0 : Int)) (h1 : (p.b - 1) / 64 = (b1 : Int)) (hN0 : ∀ j r c, j < 65 → NN0 j r c = cnt j P r c) (hNN : NN = nnB NN0 p.r p.c b0 (b1 + 1)) : BdOut w N D (dropP P p) m W := by
  subst hNN
  have hend := nb_end hs p hh NN0 hN0 b0 b1 h0 h1
  have hbase : ∀ K', MW W N D' K' (nnB NN0 p.r p.c b0 (b1 + 1)) m → (∀ r c, rectsAt (dropP P p) r c = [] → K' r c = none) → (∀ r c, rectsAt (dropP P p) r c ≠ [] → ∃ k, K' r c = some k ∧ k.l = rectsAt (dropP P p) r c) → BdOut w N D (dropP P p) m W := fun K' a1 a2 a3 =>
    ⟨D', ⟨dropP_srt hs p, Nat.le_trans (dropP_len p) hf, fun x hx => hmay x (mem_dropP hx), K', _, a1, a2, a3, hend⟩, h.mu, fun b q => (h.dn b q).imp id (fun s => by omega)⟩
  by_cases he : rectsAt (dropP P p) p.r p.c = []
  · refine hbase (upd K p.r p.c none) (h.mw.forget p.r p.c (fun j hj => by rw [hend j _ _ hj]; unfold cnt; rw [he]; rfl)) (fun r c q => ?_) (fun r c q => ?_)
    · by_cases e : r = p.r ∧ c = p.c
      · obtain ⟨rfl, rfl⟩ := e; exact upd_s _ _ _ _
      · rw [upd_o _ _ e]; rw [rects_drop_o hs p e] at q; exact hK0 r c e q
    · by_cases e : r = p.r ∧ c = p.c
      · obtain ⟨rfl, rfl⟩ := e; exact absurd he q
      · rw [upd_o _ _ e]; rw [rects_drop_o hs p e] at q ⊢; exact hK1 r c e q
  · refine hbase K h.mw (fun r c q => ?_) (fun r c q => ?_)
    · by_cases e : r = p.r ∧ c = p.c
      · obtain ⟨rfl, rfl⟩ := e; exact absurd q he
      · rw [rects_drop_o hs p e] at q; exact hK0 r c e q
    · by_cases e : r = p.r ∧ c = p.c
      · obtain ⟨rfl, rfl⟩ := e; exact ⟨k, hk, hl⟩
      · rw [rects_drop_o hs p e] at q ⊢; exact hK1 r c e q
set_option maxRecDepth 100000 in
set_option maxHeartbeats 8000000 in
theorem brem_none (w : World) (N : Nat) (D : Nat → Option Tag) (P : List Pr) (m : Nat) (p : Pr) (K : KF) (NN : Nat → Int → Int → Nat) (hmw : Hid (MW w N D K NN m)) (hs : Hid (SrtP P)) (hf : P.length ≤ m) (hm : m ≤ 4000000000000) (hn : NN 0 p.r p.c = 0) : Calls Tryz.prog 37 #[.pointer (some ⟨N, 0, none⟩), .agg #[.int .i64 p.t, .int .i64 p.l, .int .i64 p.b, .int .i64 p.q], .agg #[.int .i64 p.r, .int .i64 p.c]] w fun e w' => e = .returned (.bool false) ∧ Below w.heap.size w w' := by
  have mixed : Tryz.prog.follows .mixedOrders = true := by kernel_rfl
  obtain ⟨v0, hN0, ⟨q0, n0, c0, rfl⟩, hG⟩ := mw_get w N D K NN m p.r p.c hmw.out
  have hNl := hmw.out.lt
  have HG : Hid (∀ W, Below w.heap.size w W → Calls Tryz.prog 61 #[.slice q0 n0 c0, .agg #[.int .i64 p.r, .int .i64 p.c]] W fun e w' => e = .returned (.pointer none) ∧ Below W.heap.size W w') := (show _ from fun W hb => by
    have := hG W hb
    rw [show gotK K NN p.r p.c = none by unfold gotK; rw [if_pos hn]] at this
    exact this)
  clear hG hmw hs hn
  go_enter Tryz.func37, Tryz.ntmps37
  go_wp2
  go_region_held3 (fun w' => w'.cell? ⟨N, 0, none⟩ = some (.slice q0 n0 c0) ∧ w'.cell? ⟨w.heap.size + 1, 0, none⟩ = some (.int .i64 p.r) ∧ w'.cell? ⟨w.heap.size + 1, 1, none⟩ = some (.int .i64 p.c)) ((repeat' apply And.intro) <;> (first | (go_keep; done) | (go_simp; done))) ((go_at_call 61; refine (HG.out _ zqb).mono ?_; rintro e wa ⟨rfl, hba⟩; have hBa : Below w.heap.size w wa := bup zqb hba; have oAa : Own wa w.heap.size #[.int .i64 p.t, .int .i64 p.l, .int .i64 p.b, .int .i64 p.q] := Own.keep (by with_reducible (repeat' first | assumption | refine Own.drew ?_ | refine Own.drewN ?_ _ | (refine Own.at ?_; first | rfl | (simp; done)) | refine Own.past ?_ _)) hba; have oBa : Own wa (w.heap.size + 1) #[.int .i64 p.r, .int .i64 p.c] := Own.keep (by with_reducible (repeat' first | assumption | refine Own.drew ?_ | refine Own.drewN ?_ _ | (refine Own.at ?_; first | rfl | (simp; done)) | refine Own.past ?_ _)) hba; have cAa := oAa.cell; have cBa := oBa.cell; have lAa := oAa.lt; have lBa := oBa.lt; have za := hBa.size; have yNa := (hBa.cell (p := ⟨N, 0, none⟩) hNl).trans hN0))
  go_wp2
  go_ret
  exact ⟨rfl, hBa⟩
set_option maxRecDepth 100000 in
set_option maxHeartbeats 8000000 in
theorem brem_not (w : World) (N : Nat) (D : Nat → Option Tag) (P : List Pr) (m : Nat) (p : Pr) (K : KF) (NN : Nat → Int → Int → Nat) (hmw : Hid (MW w N D K NN m)) (hs : Hid (SrtP P)) (hf : P.length ≤ m) (hm : m ≤ 4000000000000) (k : Lo) (hk : K p.r p.c = some k) (hl : k.l = rectsAt P p.r p.c) (hn : NN 0 p.r p.c ≠ 0) (hh : hasF (fP p) P = false) : Calls Tryz.prog 37 #[.pointer (some ⟨N, 0, none⟩), .agg #[.int .i64 p.t, .int .i64 p.l, .int .i64 p.b, .int .i64 p.q], .agg #[.int .i64 p.r, .int .i64 p.c]] w fun e w' => e = .returned (.bool false) ∧ Below w.heap.size w w' := by
  have mixed : Tryz.prog.follows .mixedOrders = true := by kernel_rfl
  obtain ⟨v0, hN0, ⟨q0, n0, c0, rfl⟩, hG⟩ := mw_get w N D K NN m p.r p.c hmw.out
  have hNl := hmw.out.lt
  have HG : Hid (∀ W, Below w.heap.size w W → Calls Tryz.prog 61 #[.slice q0 n0 c0, .agg #[.int .i64 p.r, .int .i64 p.c]] W fun e w' => e = .returned (.pointer (some ⟨k.g, 0, none⟩)) ∧ Below W.heap.size W w') := (show _ from fun W hb => by
    have := hG W hb
    rw [show gotK K NN p.r p.c = some ⟨k.g, 0, none⟩ by unfold gotK; rw [if_neg hn, hk]; rfl] at this
    exact this)
  have HL : Hid (∀ W, Below w.heap.size w W → Calls Tryz.prog 62 #[.pointer (some ⟨k.g, 0, none⟩), .agg #[.int .i64 p.t, .int .i64 p.l, .int .i64 p.b, .int .i64 p.q]] W fun e w' => e = .returned (.bool false) ∧ Below W.heap.size W w') := (show _ from fun W hb => by
    have hlo := (hmw.out.keep hb).lo _ _ _ hk
    have hlen : k.l.length ≤ P.length := by rw [hl]; exact rects_len _ _ _
    exact lrem_no W k.g p.r p.c k.v k.l p.t p.l p.b p.q hlo.own hlo.row (by omega) (hlo.srt.mono _ _ _ _) (by rw [hl]; exact (rects_has P p).trans hh))
  clear hG hmw hs hk hl hn hh
  go_enter Tryz.func37, Tryz.ntmps37
  go_wp2
  go_region_held3 (fun w' => w'.cell? ⟨N, 0, none⟩ = some (.slice q0 n0 c0) ∧ w'.cell? ⟨w.heap.size + 1, 0, none⟩ = some (.int .i64 p.r) ∧ w'.cell? ⟨w.heap.size + 1, 1, none⟩ = some (.int .i64 p.c)) ((repeat' apply And.intro) <;> (first | (go_keep; done) | (go_simp; done))) ((go_at_call 61; refine (HG.out _ zqb).mono ?_; rintro e wa ⟨rfl, hba⟩; have hBa : Below w.heap.size w wa := bup zqb hba; have oAa : Own wa w.heap.size #[.int .i64 p.t, .int .i64 p.l, .int .i64 p.b, .int .i64 p.q] := Own.keep (by with_reducible (repeat' first | assumption | refine Own.drew ?_ | refine Own.drewN ?_ _ | (refine Own.at ?_; first | rfl | (simp; done)) | refine Own.past ?_ _)) hba; have oBa : Own wa (w.heap.size + 1) #[.int .i64 p.r, .int .i64 p.c] := Own.keep (by with_reducible (repeat' first | assumption | refine Own.drew ?_ | refine Own.drewN ?_ _ | (refine Own.at ?_; first | rfl | (simp; done)) | refine Own.past ?_ _)) hba; have cAa := oAa.cell; have cBa := oBa.cell; have lAa := oAa.lt; have lBa := oBa.lt; have za := hBa.size; have yNa := (hBa.cell (p := ⟨N, 0, none⟩) hNl).trans hN0))
  go_wp2_with (go_at_call 62; refine (HL.out _ zqb).mono ?_; rintro e wl ⟨rfl, hbl⟩; have hBl : Below w.heap.size w wl := bup zqb hbl)
  go_ret
  exact ⟨rfl, hBl⟩
set_option maxRecDepth 100000 in
set_option maxHeartbeats 8000000 in
theorem brem_yes (w : World) (N : Nat) (D : Nat → Option Tag) (P : List Pr) (m : Nat) (p : Pr) (K : KF) (NN : Nat → Int → Int → Nat) (hmw : Hid (MW w N D K NN m)) (hs : Hid (SrtP P)) (hf : P.length ≤ m) (hm : m ≤ 4000000000000) (hmr : mayR p.t p.l p.b p.q = true) (hmay : ∀ p ∈ P, mayC p.r p.c = true ∧ mayR p.t p.l p.b p.q = true) (hK0 : ∀ r c, rectsAt P r c = [] → K r c = none) (hK1 : ∀ r c, rectsAt P r c ≠ [] → ∃ k, K r c = some k ∧ k.l = rectsAt P r c) (hN0' : ∀ j r c, j < 65 → NN j r c = cnt j P r c) (b0 b1 : Nat) (h0 : (p.t - 1) / 64 = (b0 : Int)) (h1 : (p.b - 1) / 64 = (b1 : Int)) (k : Lo) (hk : K p.r p.c = some k) (hl : k.l = rectsAt P p.r p.c) (hn : NN 0 p.r p.c ≠ 0) (hh : hasF (fP p) P = true) : Calls Tryz.prog 37 #[.pointer (some ⟨N, 0, none⟩), .agg #[.int .i64 p.t, .int .i64 p.l, .int .i64 p.b, .int .i64 p.q], .agg #[.int .i64 p.r, .int .i64 p.c]] w fun e w' => e = .returned (.bool true) ∧ BdOut w N D (dropP P p) m w' := by
  have mixed : Tryz.prog.follows .mixedOrders = true := by kernel_rfl
  obtain ⟨v0, hN0, ⟨q0, n0, c0, rfl⟩, hG⟩ := mw_get w N D K NN m p.r p.c hmw.out
  have hNl := hmw.out.lt
  have HG : Hid (∀ W, Below w.heap.size w W → Calls Tryz.prog 61 #[.slice q0 n0 c0, .agg #[.int .i64 p.r, .int .i64 p.c]] W fun e w' => e = .returned (.pointer (some ⟨k.g, 0, none⟩)) ∧ Below W.heap.size W w') := (show _ from fun W hb => by
    have := hG W hb
    rw [show gotK K NN p.r p.c = some ⟨k.g, 0, none⟩ by unfold gotK; rw [if_neg hn, hk]; rfl] at this
    exact this)
  have HL : Hid (∀ W D', St w W N D D' K NN m #[.int .i64 p.t, .int .i64 p.l, .int .i64 p.b, .int .i64 p.q] #[.int .i64 p.r, .int .i64 p.c] → Calls Tryz.prog 62 #[.pointer (some ⟨k.g, 0, none⟩), .agg #[.int .i64 p.t, .int .i64 p.l, .int .i64 p.b, .int .i64 p.q]] W fun e w' => e = .returned (.bool true) ∧ ∃ D2 K2 k2, St w w' N D D2 K2 NN m #[.int .i64 p.t, .int .i64 p.l, .int .i64 p.b, .int .i64 p.q] #[.int .i64 p.r, .int .i64 p.c] ∧ K2 p.r p.c = some k2 ∧ k2.g = k.g ∧ k2.l = rectsAt (dropP P p) p.r p.c ∧ ∀ r c, ¬ (r = p.r ∧ c = p.c) → K2 r c = K r c) := (show _ from fun W D' hS => st_rem hS hs.out hh hk hl hf hm)
  have HJ : Hid (∀ W D' K2 (k2 : Lo) NN' j, St w W N D D' K2 NN' m #[.int .i64 p.t, .int .i64 p.l, .int .i64 p.b, .int .i64 p.q] #[.int .i64 p.r, .int .i64 p.c] → j < 65 → K2 p.r p.c = some k2 → k2.g = k.g → 0 < NN' j p.r p.c → Calls Tryz.prog 63 #[.pointer (some ⟨N, j, none⟩), .pointer (some ⟨k.g, 0, none⟩)] W fun e w' => e = .returned (.tuple #[]) ∧ ∃ D2, St w w' N D D2 K2 (updN NN' j p.r p.c (NN' j p.r p.c - 1)) m #[.int .i64 p.t, .int .i64 p.l, .int .i64 p.b, .int .i64 p.q] #[.int .i64 p.r, .int .i64 p.c]) := (show _ from fun W D' K2 k2 NN' j q1 q2 q3 q4 q5 => by rw [← q4]; exact st_leave q1 j p.r p.c k2 q2 q3 q5 hm)
  have hmrr := mayR_is hmr
  have HT : Hid (∀ W, Calls Tryz.prog 64 #[.int .i64 p.t] W fun e w' => e = .returned (.int .i64 (b0 : Nat)) ∧ w' = W) := (show _ from fun W => by rw [← h0]; exact bof_any W p.t (by omega) (by omega))
  have HB : Hid (∀ W, Calls Tryz.prog 64 #[.int .i64 p.b] W fun e w' => e = .returned (.int .i64 (b1 : Nat)) ∧ w' = W) := (show _ from fun W => by rw [← h1]; exact bof_any W p.b (by omega) (by omega))
  have hb01 : b0 ≤ b1 ∧ b1 < 64 := by omega
  have HPos : Hid (∀ j, j < 65 → (j = 0 ∨ (b0 + 1 ≤ j ∧ j ≤ b1 + 1)) → 0 < NN j p.r p.c) := (show _ from fun j a1 a2 => nb_pos hs.out p hh NN hN0' b0 b1 h0 h1 j a1 a2)
  have HE : Hid (∀ W D' K2 (k2 : Lo), St w W N D D' K2 (nnB NN p.r p.c b0 (b1 + 1)) m #[.int .i64 p.t, .int .i64 p.l, .int .i64 p.b, .int .i64 p.q] #[.int .i64 p.r, .int .i64 p.c] → K2 p.r p.c = some k2 → k2.l = rectsAt (dropP P p) p.r p.c → (∀ r c, ¬ (r = p.r ∧ c = p.c) → K2 r c = K r c) → BdOut w N D (dropP P p) m W) := (show _ from fun W D' K2 k2 q1 q2 q3 q4 => st_gone q1 hs.out hh hf hmay q2 q3 (fun r c e q => (q4 r c e).trans (hK0 r c q)) (fun r c e q => by rw [q4 r c e]; exact hK1 r c q) h0 h1 hN0' rfl)
  have HS0 : Hid (∀ W, Below w.heap.size w W → Own W w.heap.size #[.int .i64 p.t, .int .i64 p.l, .int .i64 p.b, .int .i64 p.q] → Own W (w.heap.size + 1) #[.int .i64 p.r, .int .i64 p.c] → w.heap.size + 2 ≤ W.heap.size → St w W N D D K NN m #[.int .i64 p.t, .int .i64 p.l, .int .i64 p.b, .int .i64 p.q] #[.int .i64 p.r, .int .i64 p.c]) := (show _ from fun W a1 a2 a3 a4 => St.start hmw.out a1 a2 a3 a4)
  clear hG hmw hs hk hl hn hh hmr hmrr hmay hK0 hK1 hN0' h0 h1
  have t1 : True := trivial
  go_enter Tryz.func37, Tryz.ntmps37
  go_wp2
  go_region_held3 (fun w' => w'.cell? ⟨N, 0, none⟩ = some (.slice q0 n0 c0) ∧ w'.cell? ⟨w.heap.size + 1, 0, none⟩ = some (.int .i64 p.r) ∧ w'.cell? ⟨w.heap.size + 1, 1, none⟩ = some (.int .i64 p.c)) ((repeat' apply And.intro) <;> (first | (go_keep; done) | (go_simp; done))) ((go_at_call 61; refine (HG.out _ zqb).mono ?_; rintro e wa ⟨rfl, hba⟩; have hBa : Below w.heap.size w wa := bup zqb hba; have oAa : Own wa w.heap.size #[.int .i64 p.t, .int .i64 p.l, .int .i64 p.b, .int .i64 p.q] := Own.keep (by with_reducible (repeat' first | assumption | refine Own.drew ?_ | refine Own.drewN ?_ _ | (refine Own.at ?_; first | rfl | (simp; done)) | refine Own.past ?_ _)) hba; have oBa : Own wa (w.heap.size + 1) #[.int .i64 p.r, .int .i64 p.c] := Own.keep (by with_reducible (repeat' first | assumption | refine Own.drew ?_ | refine Own.drewN ?_ _ | (refine Own.at ?_; first | rfl | (simp; done)) | refine Own.past ?_ _)) hba; have cAa := oAa.cell; have cBa := oBa.cell; have lAa := oAa.lt; have lBa := oBa.lt; have za := hBa.size; have yNa := (hBa.cell (p := ⟨N, 0, none⟩) hNl).trans hN0))
  have HS1 : Hid (St w wa N D D K NN m #[.int .i64 p.t, .int .i64 p.l, .int .i64 p.b, .int .i64 p.q] #[.int .i64 p.r, .int .i64 p.c]) := HS0.out _ hBa oAa oBa (by omega)
  go_wp2_with (first | (go_at_call 62; refine (HL.out _ _ (HS1.out.keep zqb)).mono ?_; rintro e wl ⟨rfl, D2, K2, k2, S2, k2a, k2b, k2c, k2d⟩; have HS2 : Hid (St w wl N D D2 K2 NN m #[.int .i64 p.t, .int .i64 p.l, .int .i64 p.b, .int .i64 p.q] #[.int .i64 p.r, .int .i64 p.c]) := S2; have HK2 : Hid (K2 p.r p.c = some k2 ∧ k2.g = k.g ∧ k2.l = rectsAt (dropP P p) p.r p.c ∧ ∀ r c, ¬ (r = p.r ∧ c = p.c) → K2 r c = K r c) := ⟨k2a, k2b, k2c, k2d⟩; clear k2a k2b k2c k2d S2) | (go_at_call 63; refine (HJ.out _ _ K2 k2 _ 0 (HS2.out.keep zqb) (by omega) HK2.out.1 HK2.out.2.1 (HPos.out 0 (by omega) (.inl rfl))).mono ?_; rintro e wj ⟨rfl, D3, S3⟩; have HS3 : Hid (St w wj N D D3 K2 (nnB NN p.r p.c b0 b0) m #[.int .i64 p.t, .int .i64 p.l, .int .i64 p.b, .int .i64 p.q] #[.int .i64 p.r, .int .i64 p.c]) := (show St _ _ _ _ _ _ _ _ _ _ from by have q := S3; rw [nb_zero NN p.r p.c b0] at q; exact q); have cAj := S3.oA.cell; have lAj := S3.oA.lt; clear S3) | (go_at_call 64; clear t1; refine (HT.out _).mono ?_; rintro e w5 ⟨rfl, h5⟩; have h6 := h5.symm; subst h6))
  go_loopw [8] (fun u w' => ∃ (a : Nat) (D' : Nat → Option Tag), u = .int .i64 a ∧ b0 ≤ a ∧ a ≤ b1 + 1 ∧ Hid (St w w' N D D' K2 (nnB NN p.r p.c b0 a) m #[.int .i64 p.t, .int .i64 p.l, .int .i64 p.b, .int .i64 p.q] #[.int .i64 p.r, .int .i64 p.c])) (fun u _ => 66 - (intOf u).toNat)
  case atStart => exact ⟨b0, D3, rfl, by omega, by omega, HS3⟩
  case round =>
    obtain ⟨a, D', rfl, ha0, ha1, HS⟩ := hrel
    have cA := HS.out.oA.cell
    have lA := HS.out.oA.lt
    clear HS3
    by_cases hlt : a ≤ b1
    · have hlt' : (a : Int) ≤ b1 := by omega
      have ha64 : (a : Int) < 64 := by omega
      have ha640 : (0 : Int) ≤ (a : Int) := by omega
      have hpos : Hid (0 < nnB NN p.r p.c b0 a (1 + a) p.r p.c) := (show _ from by rw [nb_at NN p.r p.c b0 a (1 + a) (by omega)]; exact HPos.out (1 + a) (by omega) (.inr (by omega)))
      go_wp2_with (first
        | (go_at_call 64; refine (HB.out _).mono ?_; rintro e w5 ⟨rfl, h5⟩; have h6 := h5.symm; subst h6)
        | (go_at_call 63; refine (HJ.out _ _ K2 k2 _ (1 + a) HS.out (by omega) HK2.out.1 HK2.out.2.1 hpos.out).mono ?_; rintro e wj2 ⟨rfl, D4, S4⟩; have HS4 : Hid (St w wj2 N D D4 K2 (nnB NN p.r p.c b0 (a + 1)) m #[.int .i64 p.t, .int .i64 p.l, .int .i64 p.b, .int .i64 p.q] #[.int .i64 p.r, .int .i64 p.c]) := (show St _ _ _ _ _ _ _ _ _ _ from by have q := S4; rw [nb_step NN p.r p.c b0 a ha0] at q; exact q); clear S4))
      exact ⟨⟨a + 1, D4, by go_num, by omega, by omega, HS4⟩, by simp [intOf]; omega⟩
    · have hlt' : ¬ (a : Int) ≤ b1 := by omega
      have hab : a = b1 + 1 := by omega
      subst hab
      go_wp2_with (go_at_call 64; refine (HB.out _).mono ?_; rintro e w5 ⟨rfl, h5⟩; have h6 := h5.symm; subst h6)
      go_ret
      exact ⟨rfl, HE.out _ _ K2 k2 HS.out HK2.out.1 HK2.out.2.2.1 HK2.out.2.2.2⟩
/-- Remove, everywhere. -/
theorem brem_any (w : World) (N : Nat) (D : Nat → Option Tag) (P : List Pr) (m : Nat) (p : Pr) (h : Bd w N D P m) (hm : m ≤ 4000000000000) : Calls Tryz.prog 37 #[.pointer (some ⟨N, 0, none⟩), .agg #[.int .i64 p.t, .int .i64 p.l, .int .i64 p.b, .int .i64 p.q], .agg #[.int .i64 p.r, .int .i64 p.c]] w fun e w' => e = .returned (.bool (remB P p)) ∧ BdOut w N D (remR P p) m w' := by
  obtain ⟨K, NN, h1, h2, h3, h4⟩ := h.mw
  have hz : rectsAt P p.r p.c = [] → NN 0 p.r p.c = 0 := fun q => by rw [h4 0 _ _ (by omega)]; unfold cnt; rw [q]; rfl
  have hnz : rectsAt P p.r p.c ≠ [] → NN 0 p.r p.c ≠ 0 := fun q s => by
    rw [h4 0 _ _ (by omega)] at s
    unfold cnt at s
    rw [List.filter_eq_self.2 (show ∀ x ∈ rectsAt P p.r p.c, inBd 0 x = true from fun _ _ => rfl)] at s
    exact q (List.eq_nil_of_length_eq_zero s)
  unfold remR remB
  cases hh : hasF (fP p) P
  · rw [if_neg (by decide)]
    by_cases he : rectsAt P p.r p.c = []
    · refine (brem_none w N D P m p K NN h1 h.srt h.few hm (hz he)).mono ?_
      rintro e w' ⟨rfl, hb⟩
      exact ⟨rfl, BdOut.same h hb⟩
    · obtain ⟨k, k1, k2⟩ := h3 _ _ he
      refine (brem_not w N D P m p K NN h1 h.srt h.few hm k k1 k2 (hnz he) hh).mono ?_
      rintro e w' ⟨rfl, hb⟩
      exact ⟨rfl, BdOut.same h hb⟩
  · rw [if_pos rfl]
    have hmem : p ∈ P := by
      unfold hasF at hh
      rw [List.any_eq_true] at hh
      obtain ⟨x, hx, h0⟩ := hh
      rw [(cmpP_zero x p).1 (of_decide_eq_true h0)] at hx
      exact hx
    have he : rectsAt P p.r p.c ≠ [] := fun q => by
      have : p.rct ∈ rectsAt P p.r p.c := List.mem_map.2 ⟨p, List.mem_filter.2 ⟨hmem, decide_eq_true ⟨rfl, rfl⟩⟩, rfl⟩
      rw [q] at this; cases this
    obtain ⟨k, k1, k2⟩ := h3 _ _ he
    have hmr := (h.may p hmem).2
    have hmm := mayR_is hmr
    exact brem_yes w N D P m p K NN h1 h.srt h.few hm hmr h.may h2 h3 h4 ((p.t - 1) / 64).toNat ((p.b - 1) / 64).toNat (by omega) (by omega) k k1 k2 (hnz he) hh
/-- Add, everywhere. -/
theorem badd_any (w : World) (N : Nat) (D : Nat → Option Tag) (P : List Pr) (m : Nat) (p : Pr) (h : Bd w N D P m) (hm : m + 1 ≤ 4000000000000) : Calls Tryz.prog 46 #[.pointer (some ⟨N, 0, none⟩), .agg #[.int .i64 p.t, .int .i64 p.l, .int .i64 p.b, .int .i64 p.q], .agg #[.int .i64 p.r, .int .i64 p.c]] w fun e w' => e = .returned (.bool (addB P p)) ∧ BdOut w N D (addR P p) (m + 1) w' := by
  have h' := h.more (Nat.le_succ m)
  unfold addR addB
  cases hmr : mayR p.t p.l p.b p.q
  · rw [Bool.false_and, if_neg (by decide)]
    refine (badd_r w N p hmr).mono ?_
    rintro e w' ⟨rfl, hb⟩
    exact ⟨rfl, BdOut.same h' hb⟩
  · cases hmc : mayC p.r p.c
    · rw [Bool.true_and, Bool.false_and, if_neg (by decide)]
      refine (badd_c w N p hmr hmc).mono ?_
      rintro e w' ⟨rfl, hb⟩
      exact ⟨rfl, BdOut.same h' hb⟩
    · obtain ⟨K, NN, h1, h2, h3, h4⟩ := h.mw
      have hmm := mayR_is hmr
      have hz : rectsAt P p.r p.c = [] → NN 0 p.r p.c = 0 := fun q => by rw [h4 0 _ _ (by omega)]; unfold cnt; rw [q]; rfl
      have hnz : rectsAt P p.r p.c ≠ [] → NN 0 p.r p.c ≠ 0 := fun q s => by
        rw [h4 0 _ _ (by omega)] at s
        unfold cnt at s
        rw [List.filter_eq_self.2 (show ∀ x ∈ rectsAt P p.r p.c, inBd 0 x = true from fun _ _ => rfl)] at s
        exact q (List.eq_nil_of_length_eq_zero s)
      cases hh : hasF (fP p) P
      · rw [Bool.true_and, Bool.true_and, Bool.not_false, if_pos rfl]
        by_cases he : rectsAt P p.r p.c = []
        · exact badd_one w N D P m p K NN hmr hmc h1 h.srt h.few hm h.may h2 h3 h4 ((p.t - 1) / 64).toNat ((p.b - 1) / 64).toNat (by omega) (by omega) (h2 _ _ he) (hz he) he hh
        · obtain ⟨k, k1, k2⟩ := h3 _ _ he
          exact badd_more w N D P m p K NN hmr hmc h1 h.srt h.few hm h.may h2 h3 h4 ((p.t - 1) / 64).toNat ((p.b - 1) / 64).toNat (by omega) (by omega) k k1 k2 (hnz he) hh
      · rw [Bool.true_and, Bool.true_and, Bool.not_true, if_neg (by decide)]
        have he : rectsAt P p.r p.c ≠ [] := fun q => by
          have hr := rects_has P p
          rw [hh, q] at hr
          cases hr
        obtain ⟨k, k1, k2⟩ := h3 _ _ he
        refine (badd_is w N D P m p K NN hmr hmc h1 h.srt h.few hm k k1 k2 (hnz he) hh).mono ?_
        rintro e w' ⟨rfl, hb⟩
        exact ⟨rfl, BdOut.same h' hb⟩
end Go.Proofs.YtcjanaldjokllaaGreat
namespace Go.Proofs.YtcjanaldjokllaaGreat
open Go.RowKit
set_option linter.all false
/-- One more behind a row of one's own. -/
theorem app_one {α : Type} {E T : TypeId} {sz by' : Nat} {cs : α → List Value} {i : TypeInfo} {z : Value} (hT : Tryz.prog.underlying T = some (.slice E)) (hi : Tryz.prog.info? E = some i) (hz : i.zero = some z) (hs : i.size = sz) (hb : i.bytes = by') (hzs : z.cells.size = sz) (hsz : 0 < sz) (hc : ∀ x, (cs x).length = sz) (h1 : ∀ x, ∀ u ∈ cs x, u.oneCell' = true)
    {w : World} {base : Nat} {v : Value} {l : List α} (h : RowG E sz cs w base v l) {vb : Nat} {x : α} {T' : TypeId} (hx : w.heap[vb]? = some (.cells (cs x).toArray T' (0, 0))) (hw : base ≤ w.heap.size) (hl : (l.length + 1) * by' ≤ 140737488355328) (hm : l.length + 1 ≤ 9223372036854775807) (ty : TypeId) :
    ∃ v' w', (Builtin.append_ #[T, T] ty #[v, .slice (some ⟨vb, 0, none⟩) 1 1]).run Tryz.prog w = .ok v' w' ∧ RowG E sz cs w' base v' (l ++ [x]) ∧ Below base w w' ∧ (v'.ownBlock = v.ownBlock ∨ v'.ownBlock = some w.heap.size) ∧ Mut (fun b => v.ownBlock = some b) w w' := by
  obtain ⟨v', w', h2, h3, h4, h5, h6⟩ := run_append_own_at (P := Tryz.prog) w base T ty E i z sz by' hT hi hz hs hb hzs hsz v l.length (flatG cs l) h ⟨vb, 0, none⟩ 1 1 (cs x) (by rw [hc x, Nat.one_mul]) (one_news hx) (h1 x) (by unfold maxLen; omega) hl hw
  refine ⟨v', w', h2, ?_, ⟨h4.os, h4.tape, h4.output, h4.size, fun b hb => h4.block b (by omega) (fun q => ?_)⟩, h6, ⟨h4.os, h4.tape, h4.output, h4.size, fun b hb hs => h4.block b hb (fun q => hs q.symm)⟩⟩
  · unfold RowG
    rw [flatG_app, flatG_sing, List.length_append]
    exact h3
  · have := (h.lt b q.symm).1
    omega
def Pr.cs (p : Pr) : List Value := [.int .i64 p.r, .int .i64 p.c, .bool true, .int .i64 p.t, .int .i64 p.l, .int .i64 p.b, .int .i64 p.q]
theorem Pr.len (x : Pr) : x.cs.length = 7 := rfl
theorem Pr.one (x : Pr) : ∀ u ∈ x.cs, u.oneCell' = true := by
  intro u hu
  simp [Pr.cs] at hu
  rcases hu with rfl | rfl | rfl | rfl | rfl | rfl | rfl <;> rfl
theorem infoCell : (Tryz.prog.info? 32).map (fun i => (i.zero, i.size, i.bytes)) = some (some (.agg #[.int .i64 0, .int .i64 0]), 2, 16) := by kernel_rfl
structure Cl where
  r : Int
  c : Int
def Cl.cs (x : Cl) : List Value := [.int .i64 x.r, .int .i64 x.c]
theorem Cl.len (x : Cl) : x.cs.length = 2 := rfl
theorem Cl.one (x : Cl) : ∀ u ∈ x.cs, u.oneCell' = true := by
  intro u hu
  simp [Cl.cs] at hu
  rcases hu with rfl | rfl <;> rfl
abbrev RowC (w : World) (base : Nat) (v : Value) (l : List Cl) : Prop := RowG 32 2 Cl.cs w base v l
/-- Two lists in one strict order with the same things are one. -/
theorem uniq {α : Type} {lt : α → α → Prop} (irr : ∀ x, ¬ lt x x) (asy : ∀ x y, lt x y → ¬ lt y x) : ∀ {A B : List α}, A.Pairwise lt → B.Pairwise lt → (∀ x, x ∈ A ↔ x ∈ B) → A = B
  | [], [], _, _, _ => rfl
  | [], b :: B, _, _, h => by have := (h b).2 (by simp); cases this
  | a :: A, [], _, _, h => by have := (h a).1 (by simp); cases this
  | a :: A, b :: B, hA, hB, h => by
    have hA' := List.pairwise_cons.1 hA
    have hB' := List.pairwise_cons.1 hB
    have hab : a = b := by
      rcases List.mem_cons.1 ((h a).1 (by simp)) with e | e
      · exact e
      · rcases List.mem_cons.1 ((h b).2 (by simp)) with e2 | e2
        · exact e2.symm
        · exact absurd (hB'.1 a e) (asy _ _ (hA'.1 b e2))
    subst hab
    congr 1
    refine uniq irr asy hA'.2 hB'.2 (fun x => ⟨fun hx => ?_, fun hx => ?_⟩)
    · rcases List.mem_cons.1 ((h x).1 (List.mem_cons_of_mem _ hx)) with e | e
      · subst e; exact absurd (hA'.1 _ hx) (irr _)
      · exact e
    · rcases List.mem_cons.1 ((h x).2 (List.mem_cons_of_mem _ hx)) with e | e
      · subst e; exact absurd (hB'.1 _ hx) (irr _)
      · exact e
theorem cmpP_irr (x : Pr) : ¬ cmpP x x < 0 := by have := (cmpP_zero x x).2 rfl; omega
/-- A pair of a cell and a rectangle. -/
def mkP (r c : Int) (x : Rct) : Pr := ⟨r, c, x.t, x.l, x.b, x.r⟩
theorem mem_rects {P : List Pr} {r c : Int} {x : Rct} : x ∈ rectsAt P r c ↔ mkP r c x ∈ P := by
  unfold rectsAt
  rw [List.mem_map]
  constructor
  · rintro ⟨p, hp, rfl⟩
    have h1 := List.mem_filter.1 hp
    have h2 : p.r = r ∧ p.c = c := of_decide_eq_true h1.2
    obtain ⟨rfl, rfl⟩ := h2
    exact h1.1
  · intro h
    exact ⟨_, List.mem_filter.2 ⟨h, decide_eq_true ⟨rfl, rfl⟩⟩, rfl⟩
end Go.Proofs.YtcjanaldjokllaaGreat
