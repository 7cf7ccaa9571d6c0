/- The contracts of refTo, targets.edges and deps.Back: all references, in order. New memory alone is made. -/
import Derived.Test.YtgojnijpjfdocaaGreatFG
import Derived.Test.YtgojnijpjfdocaaGreatA6
namespace Go.Proofs.YtgojnijpjfdocaaGreat
open Go.RowKit Go.Shelf
set_option linter.all false
set_option maxHeartbeats 1000000 in
theorem refto_any (x y : Int) (h : mayC x y = true) (w : World) : Calls Tryz.prog 62 #[.agg #[.int .i64 x, .int .i64 y]] w fun e w' => e = .returned (.agg #[.bool false, .int .i64 x, .int .i64 y, .int .i64 x, .int .i64 y]) ∧ Below w.heap.size w w' := by
  have HS : Hid (∀ W, Calls Tryz.prog 91 #[.agg #[.int .i64 x, .int .i64 y], .agg #[.int .i64 x, .int .i64 y]] W fun e w' => e = .returned (.agg #[.int .i64 x, .int .i64 y, .int .i64 x, .int .i64 y]) ∧ Below W.heap.size W w') := (show _ from fun W => by
    have q := span3 x y x y W h h
    rwa [lsI_l x x (Int.le_refl x), lsI_l y y (Int.le_refl y), mrI_l x x (Int.le_refl x), mrI_l y y (Int.le_refl y)] at q)
  go_enter Tryz.func62, Tryz.ntmps62
  go_wp2_with (go_at_call 91; refine (HS.out _).mono ?_; rintro e w1 ⟨rfl, hb⟩; have hB : Below w.heap.size w w1 := bup (by with_reducible (repeat' first | assumption | exact Below.refl _ _ | refine Below.drew ?_ | refine bdrewN ?_ _ | refine Below.setCell ?_ (by first | exact Nat.le_refl _ | (simp; done) | (simp; omega) | omega) _ | refine Below.alloc ?_ (by first | exact Nat.le_refl _ | (simp; done) | (simp; omega) | omega) _)) hb; have o2 : Own w1 (w.heap.size + 1) #[.bool false, .int .i64 0, .int .i64 0, .int .i64 0, .int .i64 0] := Own.keep (by with_reducible (repeat' first | assumption | refine Own.drew ?_ | refine Own.drewN ?_ _ | (refine Own.at ?_; first | rfl | (simp; done)) | refine Own.past ?_ _)) hb; have c2 := o2.cell; have f2 := o2.fro; have l2 := o2.lt)
  exact bodyPost_ret (v := (.agg #[.bool false, .int .i64 x, .int .i64 y, .int .i64 x, .int .i64 y])) (by simp [results, Tryz.results62, go_sem, c2, f2]) rfl ⟨rfl, by with_reducible (repeat' first | assumption | exact Below.refl _ _ | refine Below.drew ?_ | refine bdrewN ?_ _ | refine Below.setCell ?_ (by first | exact Nat.le_refl _ | (simp; done) | (simp; omega) | omega) _ | refine Below.alloc ?_ (by first | exact Nat.le_refl _ | (simp; done) | (simp; omega) | omega) _)⟩
def pE (p : Pr) : Ed := ⟨p.r, p.c, ⟨true, p.t, p.l, p.b, p.q⟩⟩
theorem rowPE {w : World} {base : Nat} {v : Value} {P : List Pr} (h : RowE w base v P) : RowD w base v (P.map pE) := by
  have e : flatG Ed.cs (P.map pE) = flatG Pr.cs P := by
    clear h
    induction P with
    | nil => rfl
    | cons p t ih => rw [List.map_cons, flatG_cons, flatG_cons, ih]; rfl
  show w.ownsRow base _ 7 v (P.map pE).length (flatG Ed.cs (P.map pE))
  rw [List.length_map, e]
  exact h
/-- The edges that lead to single cells. -/
def edT (LL : Int → Int → List Cl) (K : List Cl) : List Ed := K.flatMap (fun k => (LL k.r k.c).map (fun z => ⟨z.r, z.c, ⟨false, k.r, k.c, k.r, k.c⟩⟩))
theorem edT_app (LL : Int → Int → List Cl) (K : List Cl) (k : Cl) : edT LL (K ++ [k]) = edT LL K ++ (LL k.r k.c).map (fun z => (⟨z.r, z.c, ⟨false, k.r, k.c, k.r, k.c⟩⟩ : Ed)) := by unfold edT; simp
theorem edT_mem {LL : Int → Int → List Cl} {K : List Cl} {e : Ed} : e ∈ edT LL K ↔ ∃ k ∈ K, (⟨e.r, e.c⟩ : Cl) ∈ LL k.r k.c ∧ e.f = ⟨false, k.r, k.c, k.r, k.c⟩ := by
  unfold edT
  rw [List.mem_flatMap]
  constructor
  · rintro ⟨k, h1, h2⟩
    obtain ⟨z, h3, rfl⟩ := List.mem_map.1 h2
    exact ⟨k, h1, h3, rfl⟩
  · rintro ⟨k, h1, h2, h3⟩
    refine ⟨k, h1, List.mem_map.2 ⟨_, h2, ?_⟩⟩
    obtain ⟨r, c, f⟩ := e
    simp only at h3
    rw [h3]
theorem edT_nodup {LL : Int → Int → List Cl} : ∀ {K : List Cl}, K.Nodup → (∀ k ∈ K, (LL k.r k.c).Nodup) → (edT LL K).Nodup
  | [], _, _ => List.nodup_nil
  | k :: t, h, hL => by
    have h1 := List.nodup_cons.1 h
    show ((LL k.r k.c).map (fun z => (⟨z.r, z.c, ⟨false, k.r, k.c, k.r, k.c⟩⟩ : Ed)) ++ edT LL t).Nodup
    rw [List.nodup_append]
    refine ⟨?_, edT_nodup h1.2 (fun q hq => hL q (List.mem_cons_of_mem _ hq)), fun x hx y hy e => ?_⟩
    · refine List.Pairwise.map _ (fun a b (q : a ≠ b) e => q ?_) (hL k List.mem_cons_self)
      obtain ⟨a1, a2⟩ := a
      obtain ⟨b1, b2⟩ := b
      injection e with e1 e2
      have e3 : a1 = b1 := e1
      have e4 : a2 = b2 := e2
      rw [e3, e4]
    · subst e
      obtain ⟨z, _, rfl⟩ := List.mem_map.1 hx
      obtain ⟨k', q1, _, q2⟩ := edT_mem.1 hy
      injection q2 with _ q3 q4 _ _
      obtain ⟨a1, a2⟩ := k
      obtain ⟨b1, b2⟩ := k'
      simp only at q3 q4
      subst q3 q4
      exact h1.1 q1
set_option maxRecDepth 100000 in
set_option maxHeartbeats 4000000 in
theorem tedg_any (w : World) (bc NB : Nat) (B : Nat → Option TagD) (E : Int → Int → List Rf) (n m M : Nat) (h : To w bc NB B (inE E) n m) (hE : EOk E) (hf : Few E M) (hM : M ≤ 2000000000000) : Calls Tryz.prog 37 #[.agg #[.map (some bc), .pointer (some ⟨NB, 0, none⟩)]] w fun e w' => ∃ v, e = .returned v ∧ ∃ l, RowD w' w.heap.size v l ∧ l.Nodup ∧ (∀ e, e ∈ l ↔ e.f ∈ E e.r e.c) ∧ l.length ≤ 2000000000000 ∧ Below w.heap.size w w' := by
  have mixed : Tryz.prog.follows .mixedOrders = true := by kernel_rfl
  obtain ⟨⟨fc, h1, h2⟩, h3, Db, P, h4, h5, h6⟩ := h
  have hPn : (P.map pE).Nodup := by
    refine List.Pairwise.map _ (fun a b (q : a ≠ b) e => q ?_) (h4.srt.imp (fun {a b} (q : cmpP a b < 0) e => by
      subst e
      have := (cmpP_zero a a).2 rfl
      omega))
    obtain ⟨a1, a2, a3, a4, a5, a6⟩ := a
    obtain ⟨b1, b2, b3, b4, b5, b6⟩ := b
    injection e with e1 e2 e3
    injection e3 with _ e4 e5 e6 e7
    simp only at e1 e2 e4 e5 e6 e7
    rw [e1, e2, e4, e5, e6, e7]
  have hPm : ∀ e, e ∈ P.map pE → e.f ∈ E e.r e.c ∧ e.f.m = true := fun e he => by
    obtain ⟨p, hp, rfl⟩ := List.mem_map.1 he
    exact ⟨(h6 p).1 hp, rfl⟩
  have hPl : P.length ≤ M := by
    have := hf _ hPn (fun e he => (hPm e he).1)
    rwa [List.length_map] at this
  obtain ⟨LL, hLL⟩ : ∃ LL : Int → Int → List Cl, ∀ x y, I64 x → I64 y → RowK w (fc x y) (LL x y) ∧ (LL x y = [] → fc x y = nilS) ∧ (LL x y).Nodup ∧ (∀ z, z ∈ LL x y ↔ inE E z.r z.c ⟨false, x, y, x, y⟩) := by
    have hex : ∀ x y, ∃ L : List Cl, I64 x → I64 y → RowK w (fc x y) L ∧ (L = [] → fc x y = nilS) ∧ L.Nodup ∧ (∀ z, z ∈ L ↔ inE E z.r z.c ⟨false, x, y, x, y⟩) := fun x y => by
      by_cases q : I64 x ∧ I64 y
      · obtain ⟨L, k1, k2, k3, k4, _⟩ := h2 x y q.1 q.2
        exact ⟨L, fun _ _ => ⟨k1, k2, k3.imp (fun {a b} q e => by subst e; rw [cmpK_neg] at q; omega), k4⟩⟩
      · exact ⟨[], fun q1 q2 => absurd ⟨q1, q2⟩ q⟩
    exact ⟨fun x y => Classical.choose (hex x y), fun x y => Classical.choose_spec (hex x y)⟩
  have hIn : ∀ K : List Cl, (∀ k ∈ K, I64 k.r ∧ I64 k.c) → ∀ e ∈ edT LL K, e.f ∈ E e.r e.c ∧ e.f.m = false := fun K hK e he => by
    obtain ⟨k, q1, q2, q3⟩ := edT_mem.1 he
    obtain ⟨i1, i2⟩ := hK k q1
    have := ((hLL k.r k.c i1 i2).2.2.2 _).1 q2
    rw [q3]
    exact ⟨this, rfl⟩
  have hNd : ∀ K : List Cl, K.Nodup → (∀ k ∈ K, I64 k.r ∧ I64 k.c) → (P.map pE ++ edT LL K).Nodup := fun K hK hI => by
    rw [List.nodup_append]
    refine ⟨hPn, edT_nodup hK (fun k hk => (hLL k.r k.c (hI k hk).1 (hI k hk).2).2.2.1), fun x hx y hy e => ?_⟩
    subst e
    have q1 := (hPm _ hx).2
    rw [(hIn K hI _ hy).2] at q1
    cases q1
  have HLen : Hid (∀ K : List Cl, K.Nodup → (∀ k ∈ K, I64 k.r ∧ I64 k.c) → (P.map pE ++ edT LL K).length ≤ 2000000000000) := (show _ from fun K hK hI => Nat.le_trans (hf _ (hNd K hK hI) (fun e he => (List.mem_append.1 he).elim (fun q => (hPm e q).1) (fun q => (hIn K hI e q).1))) hM)
  have HNd : Hid (∀ K : List Cl, K.Nodup → (∀ k ∈ K, I64 k.r ∧ I64 k.c) → (P.map pE ++ edT LL K).Nodup) := hNd
  have HMem : Hid (∀ K : List Cl, (∀ k ∈ K, I64 k.r ∧ I64 k.c) → (∀ x y, I64 x → I64 y → fc x y ≠ nilS → (⟨x, y⟩ : Cl) ∈ K) → ∀ e, e ∈ P.map pE ++ edT LL K ↔ e.f ∈ E e.r e.c) := (show _ from fun K hI hK e => by
    rw [List.mem_append]
    constructor
    · rintro (q | q)
      · exact (hPm e q).1
      · exact (hIn K hI e q).1
    · intro q
      cases hm : e.f.m
      · right
        obtain ⟨e1, i1, i2⟩ := mayF_one (hE.may _ _ _ q).1 hm
        obtain ⟨k1, k2, k3, k4⟩ := hLL e.f.t e.f.l i1 i2
        have hz : (⟨e.r, e.c⟩ : Cl) ∈ LL e.f.t e.f.l := (k4 _).2 (by rw [← e1]; exact q)
        refine edT_mem.2 ⟨⟨e.f.t, e.f.l⟩, hK _ _ i1 i2 (fun q2 => ?_), hz, e1⟩
        rw [q2] at k1
        have e0 : LL e.f.t e.f.l = [] := by
          obtain ⟨qq, cap, e3, _⟩ := RowG.view Cl.len k1
          injection e3 with _ e3 _
          exact List.length_eq_zero_iff.1 e3.symm
        rw [e0] at hz
        cases hz
      · left
        obtain ⟨r, c, fm, t, l, b, q0⟩ := e
        simp only at hm
        subst hm
        exact List.mem_map.2 ⟨⟨r, c, t, l, b, q0⟩, (h6 _).2 q, rfl⟩)
  have HRow : Hid (∀ x y, I64 x → I64 y → RowK w (fc x y) (LL x y)) := (show _ from fun x y hx hy => (hLL x y hx hy).1)
  have HMay : Hid (∀ x y z, I64 x → I64 y → z ∈ LL x y → mayC x y = true) := (show _ from fun x y z hx hy hz => by
    have q := ((hLL x y hx hy).2.2.2 z).1 hz
    have q2 := (hE.may _ _ _ q).1
    have q3 : mayR x y x y = true := by
      unfold mayF at q2
      simp at q2
      exact q2
    have q4 := mayR_is q3
    simp only [mayC, decide_eq_true_iff]
    omega)
  have HMp : Hid (MapF w bc n fc) := h1
  have HBl : Hid (∀ W, Below w.heap.size w W → Calls Tryz.prog 61 #[.pointer (some ⟨NB, 0, none⟩)] W fun e w' => ∃ v, e = .returned v ∧ RowD w' w.heap.size v (P.map pE) ∧ Below W.heap.size W w') := (show _ from fun W hb => (ball_any W NB Db P m (h4.keep hb) (by omega)).mono (by
    rintro e w' ⟨v, rfl, q1, q2⟩
    exact ⟨v, rfl, RowG.mono (rowPE q1) hb.size, q2⟩))
  have HAP : Hid (ApE w) := (show ApE w from apE w)
  clear h1 h2 h3 h4 h5 h6 hPn hPm hPl hLL hIn hNd hE hf
  go_enter Tryz.func37, Tryz.ntmps37
  have HRt : Hid (∀ x y, mayC x y = true → ∀ W, Calls Tryz.prog 62 #[.agg #[.int .i64 x, .int .i64 y]] W fun e w' => e = .returned (.agg #[.bool false, .int .i64 x, .int .i64 y, .int .i64 x, .int .i64 y]) ∧ Below W.heap.size W w') := (show _ from fun x y h W => refto_any x y h W)
  go_wp2_with (first
    | (go_at_call 61; refine (HBl.out _ (by with_reducible (repeat' first | assumption | exact Below.refl _ _ | refine Below.drew ?_ | refine bdrewN ?_ _ | refine Below.setCell ?_ (by first | exact Nat.le_refl _ | (simp; done) | (simp; omega) | omega) _ | refine Below.alloc ?_ (by first | exact Nat.le_refl _ | (simp; done) | (simp; omega) | omega) _))).mono ?_; rintro e w1 ⟨v1, rfl, q1, q2⟩; have HR0 : Hid (RowD w1 w.heap.size v1 (P.map pE)) := q1; have hB1 : Below w.heap.size w w1 := (show Below w.heap.size w _ from by with_reducible (repeat' first | assumption | exact Below.refl _ _ | refine Below.drew ?_ | refine bdrewN ?_ _ | refine Below.setCell ?_ (by first | exact Nat.le_refl _ | (simp; done) | (simp; omega) | omega) _ | refine Below.alloc ?_ (by first | exact Nat.le_refl _ | (simp; done) | (simp; omega) | omega) _)).trans (q2.mono (by simp)); have oT1 : Own w1 w.heap.size #[.map (some bc), .pointer (some ⟨NB, 0, none⟩)] := Own.keep (by with_reducible (repeat' first | assumption | refine Own.drew ?_ | refine Own.drewN ?_ _ | (refine Own.at ?_; first | rfl | (simp; done)) | refine Own.past ?_ _)) q2; have a10 : w1.cell? ⟨w.heap.size, 0, none⟩ = some (.map (some bc)) := oT1.cell 0; have a11 : w1.cell? ⟨w.heap.size, 1, none⟩ = some (.pointer (some ⟨NB, 0, none⟩)) := oT1.cell 1; clear q1 q2)
    | (at_range; refine wpList_rangeF rfl _ _ _ rfl rfl (HMp.out.keep (by with_reducible (repeat' first | assumption | exact Below.refl _ _ | refine Below.drew ?_ | refine bdrewN ?_ _ | refine Below.setCell ?_ (by first | exact Nat.le_refl _ | (simp; done) | (simp; omega) | omega) _ | refine Below.alloc ?_ (by first | exact Nat.le_refl _ | (simp; done) | (simp; omega) | omega) _))) Tryz.underlying56 ?_; intro w2 cnt2 hrg2 hb2 hs2; have HG2 : Hid (RangeF w2 bc w1.heap.size n fc [] cnt2) := (show RangeF _ _ _ _ _ _ _ from by simpa using hrg2); have HR2 : Hid (RowD w2 w.heap.size v1 (P.map pE)) := (show RowD _ _ _ _ from HR0.out.keep (by with_reducible (repeat' first | assumption | exact Below.refl _ _ | refine Below.drew ?_ | refine bdrewN ?_ _ | refine Below.setCell ?_ (by first | exact Nat.le_refl _ | (simp; done) | (simp; omega) | omega) _ | refine Below.alloc ?_ (by first | exact Nat.le_refl _ | (simp; done) | (simp; omega) | omega) _))); have hB2 : Below w.heap.size w w2 := bup hB1 hb2; clear hrg2))
  have hbl : bc < w.heap.size := HMp.out.lt
  have zB1 := hB1.size
  have hne0 : Hid (∀ b, v1.ownBlock = some b → b ≠ w1.heap.size) := (show ∀ b, v1.ownBlock = some b → b ≠ w1.heap.size from fun b q => by have := (HR0.out.lt b q).2; omega)
  go_frame
  go_loopw [3] (fun u3 w' => ∃ (K : List Cl) (cnt : Nat), Hid (RangeF w' bc w1.heap.size n fc (K) cnt) ∧ Hid (∀ k ∈ K, I64 k.r ∧ I64 k.c) ∧ Hid (RowD w' w.heap.size u3 (P.map pE ++ edT LL K)) ∧ Below w.heap.size w w' ∧ w1.heap.size < w'.heap.size ∧ Hid (∀ b, u3.ownBlock = some b → b ≠ w1.heap.size)) (fun _ w' => w'.rangeLeft bc w1.heap.size)
  case atStart => exact ⟨[], cnt2, HG2, (show Hid _ from fun k hk => by cases hk), (show RowD _ _ _ _ from by rw [show edT LL [] = [] from rfl, List.append_nil]; exact HR2.out), hB2, by omega, hne0⟩
  case round =>
    clear HG2 HR2 hB2 hb2 hs2 hne0 HR0
    obtain ⟨KK, cnt, HG, HI, HR, hB, hlz, hne⟩ := hrel
    have HNdK : Hid (KK.Nodup) := (show KK.Nodup from HG.out.nodup)
    go_wp2_with (at_next; refine wpList_nextF rfl _ rfl rfl HG.out ?_ ?_)
    · intro hdone
      have HMm := HMem.out KK HI.out hdone
      have HLn := HLen.out KK HNdK.out HI.out
      have HNn := HNd.out KK HNdK.out HI.out
      clear hdone
      go_wp2
      go_ret
      exact ⟨_, rfl, _, HR.out, HNn, HMm, HLn, hB⟩
    · intro x y w3 cnt1 hx hy hnK hnl hrg1 hlt hmu hs1 hen
      have hle := HG.out.left_eq
      have hB1' : Below w.heap.size w w3 := hB.trans (hmu.to_below hB.size (fun k hk => by rw [hk]; exact zB1))
      have HG1 : Hid (RangeF w3 bc w1.heap.size n fc (KK ++ [⟨x, y⟩]) cnt1) := hrg1
      have HR1 : Hid (RowD w3 w.heap.size u3 (P.map pE ++ edT LL KK)) := (show RowD _ _ _ _ from HR.out.mut hmu (fun g q => hne.out g q))
      have hne1 : Hid (∀ b, u3.ownBlock = some b → b < w3.heap.size) := (show ∀ b, u3.ownBlock = some b → b < w3.heap.size from fun b q => (HR1.out.lt b q).2)
      have HI1 : Hid (∀ k ∈ KK ++ [(⟨x, y⟩ : Cl)], I64 k.r ∧ I64 k.c) := (show ∀ k ∈ KK ++ [(⟨x, y⟩ : Cl)], I64 k.r ∧ I64 k.c from fun k hk => (List.mem_append.1 hk).elim (HI.out k) (fun q => by rw [List.mem_singleton.1 q]; exact ⟨hx, hy⟩))
      have hrow := HRow.out x y hx hy
      obtain ⟨qv, cv, hv, v2, _, v3⟩ := RowG.view Cl.len hrow
      obtain ⟨L, hL⟩ : ∃ L, L = LL x y := ⟨_, rfl⟩
      rw [hv, ← hL] at hen
      rw [← hL] at v2 v3
      obtain ⟨nv, hn⟩ : ∃ nv, nv = L.length := ⟨_, rfl⟩
      rw [← hn] at hen v2 v3
      have HV : Hid _ := v3
      have HN : Hid (nv = L.length) := hn
      have HMy : Hid (∀ z, z ∈ L → mayC x y = true) := (show ∀ z, z ∈ L → mayC x y = true from fun z hz => HMay.out x y z hx hy (by rw [← hL]; exact hz))
      have HK : Hid (P.map pE ++ edT LL (KK ++ [⟨x, y⟩]) = (P.map pE ++ edT LL KK) ++ L.map (fun z => (⟨z.r, z.c, ⟨false, x, y, x, y⟩⟩ : Ed))) := (show _ = _ by rw [edT_app, hL, List.append_assoc])
      have HLn : Hid ((P.map pE ++ edT LL KK).length + nv ≤ 2000000000000) := (show _ ≤ _ by
        have q := HLen.out _ HG1.out.nodup HI1.out
        rw [HK.out, List.length_append, List.length_map, ← HN.out] at q
        exact q)
      have hnv : nv ≤ 9223372036854775807 := by have := HLn.out; omega
      obtain ⟨L0, hL0⟩ : ∃ L0, L0 = P.map pE ++ edT LL KK := ⟨_, rfl⟩
      rw [← hL0] at HK HLn HR1
      clear hrow hv v3 hL hn hrg1 HR HG hmu hnK hnl HI hL0 HNdK
      have zB3 := hB1'.size
      go_wp2
      obtain ⟨W2, hW2⟩ : ∃ W2 : World, W2 = w3.alloc (.cells #[.int .i64 x, .int .i64 y] 33) := ⟨_, rfl⟩
      obtain ⟨cb, hcb⟩ : ∃ cb, cb = wr.heap.size := ⟨_, rfl⟩
      have hcw : cb = w3.heap.size := by rw [hcb, hs1]
      have oC2 : Own W2 cb #[.int .i64 x, .int .i64 y] := (by rw [hW2, hcw]; with_reducible (repeat' first | assumption | refine Own.drew ?_ | refine Own.drewN ?_ _ | (refine Own.at ?_; first | rfl | (simp; done)) | refine Own.past ?_ _))
      have hB2 : Below w.heap.size w W2 := (by rw [hW2]; with_reducible (repeat' first | assumption | exact Below.refl _ _ | refine Below.drew ?_ | refine bdrewN ?_ _ | refine Below.setCell ?_ (by first | exact Nat.le_refl _ | (simp; done) | (simp; omega) | omega) _ | refine Below.alloc ?_ (by first | exact Nat.le_refl _ | (simp; done) | (simp; omega) | omega) _))
      have hB12 : Below w3.heap.size w3 W2 := (by rw [hW2]; with_reducible (repeat' first | assumption | exact Below.refl _ _ | refine Below.drew ?_ | refine bdrewN ?_ _ | refine Below.setCell ?_ (by first | exact Nat.le_refl _ | (simp; done) | (simp; omega) | omega) _ | refine Below.alloc ?_ (by first | exact Nat.le_refl _ | (simp; done) | (simp; omega) | omega) _))
      have HG2 : Hid (RangeF W2 bc w1.heap.size n fc (KK ++ [⟨x, y⟩]) cnt1) := (show RangeF _ _ _ _ _ _ _ from HG1.out.keep hB12)
      have HR2 : Hid (RowD W2 w.heap.size u3 L0) := (show RowD _ _ _ _ from HR1.out.keep hB12)
      have hne2 : Hid (∀ b, u3.ownBlock = some b → b ≠ w1.heap.size ∧ b ≠ cb) := (show ∀ b, u3.ownBlock = some b → b ≠ w1.heap.size ∧ b ≠ cb from fun b q => ⟨hne.out b q, by have := hne1.out b q; omega⟩)
      have hwc : w1.heap.size < cb := by omega
      rw [← hW2, ← hcb]
      clear hW2 hcb hcw hB12 HG1 HR1 hne1 hne hB hB1' hs1 zB3 hen hlz
      go_loopw [3, 21] (fun u v w' => ∃ k : Nat, v = .int .i64 k ∧ k ≤ nv ∧ Hid (RowD w' w.heap.size u (L0 ++ (L.take k).map (fun z => (⟨z.r, z.c, ⟨false, x, y, x, y⟩⟩ : Ed)))) ∧ Below w.heap.size w w' ∧ Own w' cb #[.int .i64 x, .int .i64 y] ∧ Hid (RangeF w' bc w1.heap.size n fc (KK ++ [⟨x, y⟩]) cnt1) ∧ Hid (∀ b, u.ownBlock = some b → b ≠ w1.heap.size ∧ b ≠ cb)) (fun _ v _ => nv - (intOf v).toNat)
      case atStart => exact ⟨0, rfl, by omega, (show RowD _ _ _ _ from by rw [List.take_zero, List.map_nil, List.append_nil]; exact HR2.out), hB2, oC2, HG2, hne2⟩
      case round =>
        obtain ⟨k, rfl, hk, HRk, hBk, oC, HGk, hnek⟩ := hrel
        by_cases hlk : k < nv
        · have hlk' : (k : Int) < nv := by omega
          obtain ⟨g, rfl, hg, hc⟩ := HV.out (by omega)
          obtain ⟨z, hz⟩ : ∃ z, L[k]? = some z := ⟨_, List.getElem?_eq_getElem (by rw [← HN.out]; omega)⟩
          have y0 : wr.cell? ⟨g, k * 2, none⟩ = some (.int .i64 z.r) := (hBk.cell (p := ⟨g, k * 2, none⟩) hg).trans (hc k z hz 0 _ rfl)
          have y1 : wr.cell? ⟨g, k * 2 + 1, none⟩ = some (.int .i64 z.c) := (hBk.cell (p := ⟨g, k * 2 + 1, none⟩) hg).trans (hc k z hz 1 _ rfl)
          have c0 : wr.cell? ⟨cb, 0, none⟩ = some (.int .i64 x) := oC.cell 0
          have c1 : wr.cell? ⟨cb, 1, none⟩ = some (.int .i64 y) := oC.cell 1
          have zz := hBk.size
          have lC := oC.lt
          have hgl : g < wr.heap.size := by omega
          have HT : Hid (L0 ++ (L.take (k + 1)).map (fun z => (⟨z.r, z.c, ⟨false, x, y, x, y⟩⟩ : Ed)) = (L0 ++ (L.take k).map (fun z => (⟨z.r, z.c, ⟨false, x, y, x, y⟩⟩ : Ed))) ++ [(⟨z.r, z.c, ⟨false, x, y, x, y⟩⟩ : Ed)]) := (show _ = _ by rw [List.take_succ, hz, List.map_append, ← List.append_assoc]; rfl)
          have HLk : Hid ((L0 ++ (L.take k).map (fun z => (⟨z.r, z.c, ⟨false, x, y, x, y⟩⟩ : Ed))).length + 1 ≤ 2000000000001) := (show _ ≤ _ by have h1 := HLn.out; have h2 := HN.out; simp only [List.length_append, List.length_map, List.length_take]; omega)
          have HRtk : Hid (∀ W, Calls Tryz.prog 62 #[.agg #[.int .i64 x, .int .i64 y]] W fun e w' => e = .returned (.agg #[.bool false, .int .i64 x, .int .i64 y, .int .i64 x, .int .i64 y]) ∧ Below W.heap.size W w') := HRt.out x y (HMy.out z (List.mem_of_getElem? hz))
          clear hz hc
          go_wp2
          obtain ⟨W4, hW4⟩ : ∃ W4 : World, W4 = wr.alloc (.cells #[.int .i64 z.r, .int .i64 z.c] 33) := ⟨_, rfl⟩
          have hB4 : Below wr.heap.size wr W4 := (by rw [hW4]; with_reducible (repeat' first | assumption | exact Below.refl _ _ | refine Below.drew ?_ | refine bdrewN ?_ _ | refine Below.setCell ?_ (by first | exact Nat.le_refl _ | (simp; done) | (simp; omega) | omega) _ | refine Below.alloc ?_ (by first | exact Nat.le_refl _ | (simp; done) | (simp; omega) | omega) _))
          have oZ4 : Own W4 wr.heap.size #[.int .i64 z.r, .int .i64 z.c] := (by rw [hW4]; with_reducible (repeat' first | assumption | refine Own.drew ?_ | refine Own.drewN ?_ _ | (refine Own.at ?_; first | rfl | (simp; done)) | refine Own.past ?_ _))
          have oC4 : Own W4 cb #[.int .i64 x, .int .i64 y] := (by rw [hW4]; with_reducible (repeat' first | assumption | refine Own.drew ?_ | refine Own.drewN ?_ _ | (refine Own.at ?_; first | rfl | (simp; done)) | refine Own.past ?_ _))
          have zW4 : W4.heap.size = wr.heap.size + 1 := (by rw [hW4]; simp)
          have z40 : W4.cell? ⟨wr.heap.size, 0, none⟩ = some (.int .i64 z.r) := oZ4.cell 0; have z41 : W4.cell? ⟨wr.heap.size, 1, none⟩ = some (.int .i64 z.c) := oZ4.cell 1; have c40 : W4.cell? ⟨cb, 0, none⟩ = some (.int .i64 x) := oC4.cell 0; have c41 : W4.cell? ⟨cb, 1, none⟩ = some (.int .i64 y) := oC4.cell 1
          rw [← hW4]
          clear hW4 c0 c1 y0 y1
          refine wp_region_held_drew (S := (fun w' => w'.cell? ⟨wr.heap.size, 0, none⟩ = some (.int .i64 z.r) ∧ w'.cell? ⟨wr.heap.size, 1, none⟩ = some (.int .i64 z.c) ∧ w'.cell? ⟨cb, 0, none⟩ = some (.int .i64 x) ∧ w'.cell? ⟨cb, 1, none⟩ = some (.int .i64 y))) (by kernel_rfl) (by (try dsimp only); ((repeat' apply And.intro) <;> (first | (go_keep; done) | (go_simp; done)))) (fun hHeld => ?_)
          refine wpAnyH_take (i := 0) (v := u3) rfl (by kernel_rfl) (by kernel_rfl) (by kernel_rfl) (fun _ _ _ h => h) (Or.inl ⟨by first | rfl | kernel_rfl, by intro wz hSw; (try dsimp only at hSw); go_simp⟩) (by assumption) ?_
          (try simp only [Act.put, List.getElem_toArray, List.getElem_cons_succ, List.getElem_cons_zero, List.setIfInBounds_toArray, List.set_cons_zero, List.set_cons_succ])
          refine wpAnyH_take (i := 1) (v := (.agg #[.int .i64 z.r, .int .i64 z.c])) rfl (by kernel_rfl) (by kernel_rfl) (by kernel_rfl) (fun _ _ _ h => h) (Or.inl ⟨by first | rfl | kernel_rfl, by intro wz hSw; (try dsimp only at hSw); go_simp⟩) (by assumption) ?_
          (try simp only [Act.put, List.getElem_toArray, List.getElem_cons_succ, List.getElem_cons_zero, List.setIfInBounds_toArray, List.set_cons_zero, List.set_cons_succ])
          refine wpAnyH_take (i := 2) (v := (.agg #[.int .i64 x, .int .i64 y])) rfl (by kernel_rfl) (by kernel_rfl) (by kernel_rfl) (fun _ _ _ h => h) (Or.inl ⟨by first | rfl | kernel_rfl, by intro wz hSw; (try dsimp only at hSw); go_simp⟩) (by assumption) ?_
          (try simp only [Act.put, List.getElem_toArray, List.getElem_cons_succ, List.getElem_cons_zero, List.setIfInBounds_toArray, List.set_cons_zero, List.set_cons_succ])
          refine wpAnyH_ready (rs := [3]) (by kernel_rfl) (by simp) ?_
          refine AllReadyH.cons rfl (fun K hK => ?_) ?_
          · go_simp
            (go_at_call 62; refine (HRtk.out _).mono ?_; rintro e wb ⟨rfl, hbb⟩; have hBb0 : Below wr.heap.size wr wb := (show Below wr.heap.size wr _ from by with_reducible (repeat' first | assumption | exact Below.refl _ _ | refine Below.drew ?_ | refine bdrewN ?_ _ | refine Below.setCell ?_ (by first | exact Nat.le_refl _ | (simp; done) | (simp; omega) | omega) _ | refine Below.alloc ?_ (by first | exact Nat.le_refl _ | (simp; done) | (simp; omega) | omega) _)).trans (hbb.mono (by first | omega | (simp; omega))); have oZb : Own wb wr.heap.size #[.int .i64 z.r, .int .i64 z.c] := Own.keep (by with_reducible (repeat' first | assumption | refine Own.drew ?_ | refine Own.drewN ?_ _ | (refine Own.at ?_; first | rfl | (simp; done)) | refine Own.past ?_ _)) hbb; have oCb : Own wb cb #[.int .i64 x, .int .i64 y] := Own.keep (by with_reducible (repeat' first | assumption | refine Own.drew ?_ | refine Own.drewN ?_ _ | (refine Own.at ?_; first | rfl | (simp; done)) | refine Own.past ?_ _)) hbb; have zb0 : wb.cell? ⟨wr.heap.size, 0, none⟩ = some (.int .i64 z.r) := oZb.cell 0; have zb1 : wb.cell? ⟨wr.heap.size, 1, none⟩ = some (.int .i64 z.c) := oZb.cell 1; have cb0 : wb.cell? ⟨cb, 0, none⟩ = some (.int .i64 x) := oCb.cell 0; have cb1 : wb.cell? ⟨cb, 1, none⟩ = some (.int .i64 y) := oCb.cell 1; have zwb := hBb0.size; clear hbb)
            go_wp2_with fail
            refine hK.out _ _ (by (try dsimp only); first | (with_reducible assumption) | ((repeat' apply And.intro) <;> (first | (go_keep; done) | (go_simp; done)))) (fun hHeld => ?_)
            clear hK K
            (try simp only [Act.put, List.getElem_toArray, List.getElem_cons_succ, List.getElem_cons_zero, List.setIfInBounds_toArray, List.set_cons_zero, List.set_cons_succ])
            refine wpAnyH_take (i := 4) (v := (.agg #[.int .i64 z.r, .int .i64 z.c, .bool false, .int .i64 x, .int .i64 y, .int .i64 x, .int .i64 y])) rfl (by kernel_rfl) (by kernel_rfl) (by kernel_rfl) (fun _ _ _ h => h) (Or.inl ⟨by first | rfl | kernel_rfl, by intro wz hSw; (try dsimp only at hSw); go_simp⟩) (by assumption) ?_
            (try simp only [Act.put, List.getElem_toArray, List.getElem_cons_succ, List.getElem_cons_zero, List.setIfInBounds_toArray, List.set_cons_zero, List.set_cons_succ])
            refine wpAnyH_ready (rs := [5]) (by kernel_rfl) (by simp) ?_
            refine AllReadyH.cons rfl (fun K hK => ?_) ?_
            · go_simp
              refine hK.out _ _ (by (try dsimp only); first | (with_reducible assumption) | ((repeat' apply And.intro) <;> (first | (go_keep; done) | (go_simp; done)))) (fun hHeld => ?_)
              clear hK K
              (try simp only [Act.put, List.getElem_toArray, List.getElem_cons_succ, List.getElem_cons_zero, List.setIfInBounds_toArray, List.set_cons_zero, List.set_cons_succ])
              refine wpAnyH_ready (rs := [6]) (by kernel_rfl) (by simp) ?_
              refine AllReadyH.cons rfl (fun K hK => ?_) ?_
              · refine step_appx rfl (.tmp 25) (.tmp 30) 27 27 rfl _ (.slice (some ⟨wb.heap.size, 0, none⟩) 1 1) (by simp [Act.eval, Act.put]) (by simp [Act.eval, Act.put]) (HAP.out _ _ _ wb.heap.size (⟨z.r, z.c, ⟨false, x, y, x, y⟩⟩ : Ed) (RowG.keep HRk.out (by with_reducible (repeat' first | assumption | exact Below.refl _ _ | refine Below.drew ?_ | refine bdrewN ?_ _ | refine Below.setCell ?_ (by first | exact Nat.le_refl _ | (simp; done) | (simp; omega) | omega) _ | refine Below.alloc ?_ (by first | exact Nat.le_refl _ | (simp; done) | (simp; omega) | omega) _))) (heap_at (by simp)) (by simp; omega) (by have := HLk.out; omega)) (fun v' w3 hq => ?_); obtain ⟨r1, r2, r3, r4⟩ := hq; have R1 : Hid _ := r1; have R2 : Below w.heap.size w w3 := (show Below w.heap.size w _ from hBk.trans (Below.mono (show Below wr.heap.size wr _ from by with_reducible (repeat' first | assumption | exact Below.refl _ _ | refine Below.drew ?_ | refine bdrewN ?_ _ | refine Below.setCell ?_ (by first | exact Nat.le_refl _ | (simp; done) | (simp; omega) | omega) _ | refine Below.alloc ?_ (by first | exact Nat.le_refl _ | (simp; done) | (simp; omega) | omega) _)) hBk.size)).trans r2; have R3 : Hid (∀ b, v'.ownBlock = some b → b ≠ w1.heap.size ∧ b ≠ cb) := (show ∀ b, v'.ownBlock = some b → b ≠ w1.heap.size ∧ b ≠ cb from fun b q => by rcases r3 with s | s; exact hnek.out b (s.symm.trans q); rw [s] at q; injection q with q; simp at q; omega); have oC3 : Own w3 cb #[.int .i64 x, .int .i64 y] := Own.mut (by with_reducible (repeat' first | assumption | refine Own.drew ?_ | refine Own.drewN ?_ _ | (refine Own.at ?_; first | rfl | (simp; done)) | refine Own.past ?_ _)) r4 (fun q => (hnek.out cb q).2 rfl); have oZ3 : Own w3 wr.heap.size #[.int .i64 z.r, .int .i64 z.c] := Own.mut (by with_reducible (repeat' first | assumption | refine Own.drew ?_ | refine Own.drewN ?_ _ | (refine Own.at ?_; first | rfl | (simp; done)) | refine Own.past ?_ _)) r4 (fun q => by have := (HRk.out.lt _ q).2; omega); have z30 : w3.cell? ⟨wr.heap.size, 0, none⟩ = some (.int .i64 z.r) := oZ3.cell 0; have z31 : w3.cell? ⟨wr.heap.size, 1, none⟩ = some (.int .i64 z.c) := oZ3.cell 1; have c30 : w3.cell? ⟨cb, 0, none⟩ = some (.int .i64 x) := oC3.cell 0; have c31 : w3.cell? ⟨cb, 1, none⟩ = some (.int .i64 y) := oC3.cell 1; have HG3 : Hid (RangeF w3 bc w1.heap.size n fc (KK ++ [⟨x, y⟩]) cnt1) := (show RangeF _ _ _ _ _ _ _ from (HGk.out.keep (by with_reducible (repeat' first | assumption | exact Below.refl _ _ | refine Below.drew ?_ | refine bdrewN ?_ _ | refine Below.setCell ?_ (by first | exact Nat.le_refl _ | (simp; done) | (simp; omega) | omega) _ | refine Below.alloc ?_ (by first | exact Nat.le_refl _ | (simp; done) | (simp; omega) | omega) _))).mut r4 (fun q => by have := (HRk.out.lt _ q).1; omega) (fun q => (hnek.out _ q).1 rfl)); clear r1 r2 r3 r4
                (try simp only [Act.put, List.getElem_toArray, List.getElem_cons_succ, List.getElem_cons_zero, List.setIfInBounds_toArray, List.set_cons_zero, List.set_cons_succ])
                refine hK.out _ _ (by (try dsimp only); first | (with_reducible assumption) | ((repeat' apply And.intro) <;> (first | (go_keep; done) | (go_simp; done)))) (fun hHeld => ?_)
                clear hK K
                (try simp only [Act.put, List.getElem_toArray, List.getElem_cons_succ, List.getElem_cons_zero, List.setIfInBounds_toArray, List.set_cons_zero, List.set_cons_succ])
                refine wpAnyH_ready (rs := [7]) (by kernel_rfl) (by simp) ?_
                refine AllReadyH.cons rfl (fun K hK => ?_) ?_
                · go_simp
                  refine hK.out _ _ (by (try dsimp only); first | (with_reducible assumption) | ((repeat' apply And.intro) <;> (first | (go_keep; done) | (go_simp; done)))) (fun hHeld => ?_)
                  clear hK K
                  (try simp only [Act.put, List.getElem_toArray, List.getElem_cons_succ, List.getElem_cons_zero, List.setIfInBounds_toArray, List.set_cons_zero, List.set_cons_succ])
                  refine wpAnyH_done (by kernel_rfl) ?_ _
                  go_wp2
                  exact ⟨⟨k + 1, by go_num, by omega, (show RowD _ _ _ _ from by rw [HT.out]; exact R1.out), R2, oC3, HG3, R3⟩, by simp [intOf] <;> omega⟩
                exact AllReadyH.nil
              exact AllReadyH.nil
            exact AllReadyH.nil
          exact AllReadyH.nil
        · have lC := oC.lt
          have hkn : k = nv := by omega
          subst hkn
          have HR4 : Hid (RowD wr w.heap.size u3 (P.map pE ++ edT LL (KK ++ [⟨x, y⟩]))) := (show RowD _ _ _ _ from by rw [HK.out]; have q := HRk.out; rw [HN.out, List.take_length] at q; exact q)
          go_wp2
          exact ⟨⟨KK ++ [⟨x, y⟩], cnt1, HGk, HI1, HR4, hBk, by omega, (show Hid _ from fun b q => (hnek.out b q).1)⟩, by rw [HGk.out.left_eq, hle]; exact hlt⟩
end Go.Proofs.YtgojnijpjfdocaaGreat
