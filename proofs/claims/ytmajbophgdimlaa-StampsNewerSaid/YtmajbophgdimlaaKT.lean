/- The contract of the clock's anew: all is numbered anew, if there is a number left. -/
import Derived.Test.YtmajbophgdimlaaKR
namespace Go.Proofs.Ytmajbophgdimlaa
open Go.RowKit
set_option linter.all false
theorem anew_see {F : Nat → Prop} {w0 w1 wb : World} {N bm rb base : Nat} {G : Int → Int → Nat} {most last turns : Int} {S : St} {l K : List Cl} {n cnt : Nat} {v : Value} {a b : Int} {p : Int × Int} (hG : RangeF w1 bm rb n (vf S G) (K ++ [⟨a, b⟩]) cnt) (hC : Ck (fun b => F b ∨ base ≤ b) w1 N bm G most last turns (seenP S l K) n) (hR : RowP G w1 base v l) (hp : S a b = some p) (hn : (⟨a, b⟩ : Cl) ∉ K) (hb : Below w1.heap.size w1 wb) (hrb : base ≤ rb) (hMu : Mut (fun b => ¬ F b) w0 wb) :
    RangeF (wb.setCell ⟨G a b, 1, none⟩ (.int .i64 (lowC S l (p.2 + 1)))) bm rb n (vf S G) (K ++ [⟨a, b⟩]) cnt ∧ Ck (fun b => F b ∨ base ≤ b) (wb.setCell ⟨G a b, 1, none⟩ (.int .i64 (lowC S l (p.2 + 1)))) N bm G most last turns (seenP S l (K ++ [⟨a, b⟩])) n ∧ RowP G (wb.setCell ⟨G a b, 1, none⟩ (.int .i64 (lowC S l (p.2 + 1)))) base v l ∧ Mut (fun b => ¬ F b) w0 (wb.setCell ⟨G a b, 1, none⟩ (.int .i64 (lowC S l (p.2 + 1)))) := by
  have e := seenP_out (l := l) hp hn
  have hfg := hC.fG a b p e
  have hne := hC.ne a b p e
  have hms : Mut (fun k => k = G a b) wb (wb.setCell ⟨G a b, 1, none⟩ (.int .i64 (lowC S l (p.2 + 1)))) := Mut.set (S := fun k => k = G a b) (Mut.refl _ _) (.inl rfl) _
  refine ⟨(hG.keep hb).mut hms (fun q => hne.2 q.symm) (fun q => hfg (.inr (by rw [← q]; exact hrb))), ?_, RowG.mut (hR.keep hb) hms (fun g q r => hfg (.inr (by rw [← r]; exact (hR.lt g q).1))), Mut.set hMu (.inl (fun q => hfg (.inl q))) _⟩
  have q : Ck (fun b => F b ∨ base ≤ b) (wb.setCell ⟨G a b, 1, none⟩ (.int .i64 (lowC S l (p.2 + 1)))) N bm G most last turns (upS (seenP S l K) a b (some (p.1, lowC S l (p.2 + 1)))) n := (hC.keep hb).put (k := 1) e (by omega) _
  rwa [seenP_next hp] at q
theorem anew_num {F : Nat → Prop} {w0 w1 : World} {N bm base : Nat} {G : Int → Int → Nat} {most last turns : Int} {S : St} {l : List Cl} {n k : Nat} {v : Value} {c : Cl} {p : Int × Int} (hC : Ck (fun b => F b ∨ base ≤ b) w1 N bm G most last turns (numP S (l.take k) 0) n) (hR : RowP G w1 base v l) (hp : numP S (l.take k) 0 c.r c.c = some p) (hk : l[k]? = some c) (hMu : Mut (fun b => ¬ F b) w0 w1) :
    Ck (fun b => F b ∨ base ≤ b) (w1.setCell ⟨G c.r c.c, 0, none⟩ (.int .i64 (k + 1))) N bm G most last turns (numP S (l.take (k + 1)) 0) n ∧ RowP G (w1.setCell ⟨G c.r c.c, 0, none⟩ (.int .i64 (k + 1))) base v l ∧ Mut (fun b => ¬ F b) w0 (w1.setCell ⟨G c.r c.c, 0, none⟩ (.int .i64 (k + 1))) := by
  have hfg := hC.fG _ _ p hp
  have hms : Mut (fun k => k = G c.r c.c) w1 (w1.setCell ⟨G c.r c.c, 0, none⟩ (.int .i64 (k + 1))) := Mut.set (S := fun k => k = G c.r c.c) (Mut.refl _ _) (.inl rfl) _
  refine ⟨?_, RowG.mut hR hms (fun g q r => hfg (.inr (by rw [← r]; exact (hR.lt g q).1))), Mut.set hMu (.inl (fun q => hfg (.inl q))) _⟩
  have q : Ck (fun b => F b ∨ base ≤ b) (w1.setCell ⟨G c.r c.c, 0, none⟩ (.int .i64 (k + 1))) N bm G most last turns (upS (numP S (l.take k) 0) c.r c.c (some ((k : Int) + 1, p.2))) n := hC.put (k := 0) hp (by omega) _
  have ek : (l.take k).length = k := by have := (List.getElem?_eq_some_iff.1 hk).1; rw [List.length_take]; omega
  rw [List.take_succ, hk, Option.toList_some, numP_snoc, ek]
  have es : sen (numP S (l.take k) 0) c.r c.c = p.2 := by unfold sen; rw [hp]
  rw [es, Int.zero_add]
  exact q
set_option maxRecDepth 100000 in
set_option maxHeartbeats 4000000 in
theorem kanew_any (w : World) (F : Nat → Prop) (N bm : Nat) (G : Int → Int → Nat) (most last turns : Int) (S : St) (n M : Nat) (x y : Int) (h : Ck F w N bm G most last turns S n) (hM : M ≤ 4000000000000) (hf : ∀ K : List Cl, K.Nodup → (∀ k ∈ K, S k.r k.c ≠ none) → K.length ≤ M)
    (hD : ∀ c d : Cl, 0 < chg S c.r c.c → chg S c.r c.c = chg S d.r d.c → c = d) (hF : ∀ b, F b → b < w.heap.size) (hm : 2 ≤ most ∧ most ≤ 1099511627776) (hs : ∀ a b p, S a b = some p → 0 ≤ p.2 ∧ p.2 ≤ 4000000000000) (ht : 0 ≤ turns ∧ turns ≤ 4000000000000)
    (l : List Cl) (hl : IsOth S x y l) (hlM : l.length ≤ M) : Calls Try.prog 19 #[.pointer (some ⟨N, 0, none⟩), .agg #[.int .i64 x, .int .i64 y]] w fun e w' => (most - 1 ≤ l.length ∧ e = .returned (.bool false) ∧ Below w.heap.size w w') ∨ (l.length < most - 1 ∧ e = .returned (.bool true) ∧ Ck F w' N bm G most l.length (turns + 1) (numP (seenA S l) l 0) n ∧ Mut (fun b => ¬ F b) w w') := by
  have mixed : Try.prog.follows .mixedOrders = true := by kernel_rfl
  have HK : Hid (∀ W, Below w.heap.size w W → Ck (fun b => F b ∨ w.heap.size ≤ b) W N bm G most last turns S n) := (show _ from fun W hb => (h.fresh (fun b q => q)).keep hb)
  have HO : Hid (∀ W, Below w.heap.size w W → w.heap.size < W.heap.size → Calls Try.prog 20 #[.pointer (some ⟨N, 0, none⟩), .agg #[.int .i64 x, .int .i64 y]] W fun e w' => ∃ q cap, e = .returned (.slice q l.length cap) ∧ RowP G w' W.heap.size (.slice q l.length cap) l ∧ l.length ≤ cap ∧ Below W.heap.size W w') := (show _ from fun W hb hz => (koth_any W F N bm G most last turns S n M x y (h.keep hb) (by omega) hf hD).mono (by
    rintro e w' ⟨v, rfl, l', q1, q2, q3, q4⟩
    rw [hl.one q2] at q1
    obtain ⟨q, cap, hv, h1, h2, h3⟩ := RowG.view (sz := 1) (fun _ => rfl) q1
    subst hv
    exact ⟨q, cap, rfl, q1, h1, q4⟩))
  have oN := h.own
  have lN := oN.lt
  have HI : Hid (∀ a b, S a b ≠ none → I64 a ∧ I64 b ∧ vf S G a b ≠ nilS) := (show _ from fun a b q => by
    cases e : S a b with
    | none => exact absurd e q
    | some p => exact ⟨(h.st a b p e).1.1, (h.st a b p e).1.2, by rw [vf_some e]; simp [nilS]⟩)
  have HLs : Hid (∀ c ∈ l, S c.r c.c ≠ none) := (show _ from fun c hc q => by
    have := ((hl.1 c).1 hc).2
    unfold chg at this
    rw [q] at this
    cases this)
  have HLp : Hid (∀ K : List Cl, ∀ c ∈ l, ∃ p, seenP S l K c.r c.c = some p ∧ p.1 = chg S c.r c.c) := (show _ from fun K c hc => by
    cases e : seenP S l K c.r c.c with
    | none => exact absurd (seenP_dom.1 e) (HLs.out c hc)
    | some p => exact ⟨p, rfl, by rw [← chg_seenP S l K]; unfold chg; rw [e]⟩)
  have HSr : Hid (SrtK (l.map fun c => (⟨G c.r c.c, chg S c.r c.c⟩ : Sk))) := (show SrtK _ from List.pairwise_map.2 (hl.2.imp (fun q => Int.le_of_lt q)))
  have HSe : Hid (∀ a b p, S a b = some p → 0 ≤ p.2 ∧ p.2 ≤ 4000000000000) := hs
  have HL : Hid (IsOth S x y l) := hl
  have HHF : Hid (∀ b, F b → b < w.heap.size) := hF
  have hlo4 : l.length ≤ 4000000000000 := by omega
  obtain ⟨hm1, hm2⟩ := hm
  clear h hf hD hs hl hF
  by_cases hfull : most - 1 ≤ l.length
  · have hfull' : (l.length : Int) ≥ most - 1 := hfull
    go_enter Try.func19, Try.ntmps19
    go_wp2_with (go_at_call 20; refine (HO.out _ (by with_reducible (repeat' first | assumption | exact Below.refl _ _ | refine Below.drew ?_ | refine bdrewN ?_ _ | refine Below.setCell ?_ (by first | exact Nat.le_refl _ | (simp; done) | (simp; omega) | omega) _ | refine Below.alloc ?_ (by first | exact Nat.le_refl _ | (simp; done) | (simp; omega) | omega) _)) (by simp)).mono ?_; rintro e wa ⟨q, cap, rfl, q1, q2, q3⟩; have hBa : Below w.heap.size w wa := bup (by with_reducible (repeat' first | assumption | exact Below.refl _ _ | refine Below.drew ?_ | refine bdrewN ?_ _ | refine Below.setCell ?_ (by first | exact Nat.le_refl _ | (simp; done) | (simp; omega) | omega) _ | refine Below.alloc ?_ (by first | exact Nat.le_refl _ | (simp; done) | (simp; omega) | omega) _)) q3; have oNa := oN.keep hBa; have a0 : wa.cell? ⟨N, 0, none⟩ = some (.int .i64 most) := oNa.cell 0; have lNa := oNa.lt; clear q1 q3)
    go_ret
    exact .inl ⟨hfull, rfl, hBa⟩
  · have hfull' : ¬ (l.length : Int) ≥ most - 1 := hfull
    have hll : l.length ≤ 1099511627776 := by omega
    go_enter Try.func19, Try.ntmps19
    go_wp2_with (first
      | (go_at_call 20; refine (HO.out _ (by with_reducible (repeat' first | assumption | exact Below.refl _ _ | refine Below.drew ?_ | refine bdrewN ?_ _ | refine Below.setCell ?_ (by first | exact Nat.le_refl _ | (simp; done) | (simp; omega) | omega) _ | refine Below.alloc ?_ (by first | exact Nat.le_refl _ | (simp; done) | (simp; omega) | omega) _)) (by simp)).mono ?_; rintro e wa ⟨q, cap, rfl, q1, q2, q3⟩; have hBa : Below w.heap.size w wa := bup (by with_reducible (repeat' first | assumption | exact Below.refl _ _ | refine Below.drew ?_ | refine bdrewN ?_ _ | refine Below.setCell ?_ (by first | exact Nat.le_refl _ | (simp; done) | (simp; omega) | omega) _ | refine Below.alloc ?_ (by first | exact Nat.le_refl _ | (simp; done) | (simp; omega) | omega) _)) q3; have oNa := oN.keep hBa; have a0 : wa.cell? ⟨N, 0, none⟩ = some (.int .i64 most) := oNa.cell 0; have a3 : wa.cell? ⟨N, 3, none⟩ = some (.map (some bm)) := oNa.cell 3; have lNa := oNa.lt; have HRa : Hid (RowP G wa w.heap.size (.slice q l.length cap) l) := (show RowP _ _ _ _ _ from RowG.mono q1 (by simp)); clear q1 q3)
      | (at_range; refine wpList_rangeF rfl _ _ _ rfl rfl (HK.out _ (by with_reducible (repeat' first | assumption | exact Below.refl _ _ | refine Below.drew ?_ | refine bdrewN ?_ _ | refine Below.setCell ?_ (by first | exact Nat.le_refl _ | (simp; done) | (simp; omega) | omega) _ | refine Below.alloc ?_ (by first | exact Nat.le_refl _ | (simp; done) | (simp; omega) | omega) _))).map Try.underlying46 ?_; intro w0 cnt0 hrg0 hb0 hs0; have HG0 : Hid (RangeF w0 bm wa.heap.size n (vf S G) [] cnt0) := hrg0; have hB0 : Below w.heap.size w w0 := bup (by with_reducible (repeat' first | assumption | exact Below.refl _ _ | refine Below.drew ?_ | refine bdrewN ?_ _ | refine Below.setCell ?_ (by first | exact Nat.le_refl _ | (simp; done) | (simp; omega) | omega) _ | refine Below.alloc ?_ (by first | exact Nat.le_refl _ | (simp; done) | (simp; omega) | omega) _)) hb0; have HR0 : Hid (RowP G w0 w.heap.size (.slice q l.length cap) l) := (show RowP _ _ _ _ _ from HRa.out.keep hb0); clear hrg0 hb0))
    have hrne : Hid (∀ g, (Value.slice q l.length cap).ownBlock = some g → g ≠ wa.heap.size) := (show _ from fun g q r => by have := (HRa.out.lt g q).2; omega)
    go_frame
    go_loopw [26] (fun _ w' => ∃ (K : List Cl) (cnt : Nat), Hid (RangeF w' bm wa.heap.size n (vf S G) K cnt) ∧ Hid (Ck (fun b => F b ∨ w.heap.size ≤ b) w' N bm G most last turns (seenP S l K) n) ∧ Hid (RowP G w' w.heap.size (.slice q l.length cap) l) ∧ Hid (Mut (fun b => ¬ F b) w w')) (fun _ w' => w'.rangeLeft bm wa.heap.size)
    case atStart => exact ⟨[], cnt0, HG0, (show Ck _ _ _ _ _ _ _ _ _ _ from by rw [seenP_nil]; exact HK.out _ hB0), HR0, (show Mut _ _ _ from Mut.of_below hB0)⟩
    case round =>
      clear HG0 hB0 HR0 HRa hs0
      obtain ⟨K, cnt, HG, HC, HR, HMu⟩ := hrel
      go_wp2_with (at_next; refine wpList_nextF rfl _ rfl rfl HG.out ?_ ?_)
      · intro hdone
        have HC1 : Hid (Ck (fun b => F b ∨ w.heap.size ≤ b) wr N bm G most last turns (seenA S l) n) := (show Ck _ _ _ _ _ _ _ _ _ _ from by
          have q := HC.out
          rwa [seenP_all (fun a b q => by obtain ⟨h1, h2, h3⟩ := HI.out a b q; exact hdone a b h1 h2 h3)] at q)
        clear hdone HG HC
        go_wp2
        go_loopw [41] (fun u w' => ∃ k : Nat, u = .int .i64 k ∧ k ≤ l.length ∧ Hid (Ck (fun b => F b ∨ w.heap.size ≤ b) w' N bm G most last turns (numP (seenA S l) (l.take k) 0) n) ∧ Hid (RowP G w' w.heap.size (.slice q l.length cap) l) ∧ Hid (Mut (fun b => ¬ F b) w w')) (fun u _ => l.length - (intOf u).toNat)
        case atStart => exact ⟨0, rfl, by omega, (show Ck _ _ _ _ _ _ _ _ _ _ from HC1.out), HR, HMu⟩
        case round =>
          obtain ⟨k, rfl, hk, HCk, HRk, HMk⟩ := hrel
          by_cases hlk : k < l.length
          · have hlk' : (k : Int) < l.length := by omega
            obtain ⟨c, hc⟩ : ∃ c, l[k]? = some c := ⟨_, List.getElem?_eq_getElem hlk⟩
            obtain ⟨q1, cap1, hv, v1, v2, v3⟩ := RowG.view (sz := 1) (fun _ => rfl) HRk.out
            injection hv with e1 e2 e3
            subst e3
            obtain ⟨g, e4, hg, hcl⟩ := v3 (by omega)
            have e5 := e1.trans e4
            subst e5
            have y0 : wr.cell? ⟨g, k, none⟩ = some (.pointer (some ⟨G c.r c.c, 0, none⟩)) := by
              have := hcl k c hc 0 _ rfl
              rw [show k * 1 + 0 = k by omega] at this
              exact this
            obtain ⟨p, hp⟩ : ∃ p, numP (seenA S l) (l.take k) 0 c.r c.c = some p := by
              cases e : numP (seenA S l) (l.take k) 0 c.r c.c with
              | some p => exact ⟨p, rfl⟩
              | none =>
                have hsa : ∀ d ∈ l, seenA S l d.r d.c ≠ none := fun d hd q => HLs.out d hd (by
                  unfold seenA at q
                  cases e2 : S d.r d.c with
                  | none => rfl
                  | some p => rw [e2] at q; cases q)
                exact absurd ((numP_dom _ _ _ _ _ (fun d hd => hsa d (List.mem_of_mem_take hd))).1 e) (hsa c (List.mem_of_getElem? hc))
            have oG := (HCk.out.st _ _ p hp).2
            have g0 : wr.cell? ⟨G c.r c.c, 0, none⟩ = some (.int .i64 p.1) := oG.cell 0
            have gf : wr.frozen? ⟨G c.r c.c, 0, none⟩ = false := oG.fro 0
            have lG := oG.lt
            have HNx : Hid _ := anew_num HCk.out HRk.out hp hc HMk.out
            clear hc hp HCk HRk HMk v1 v2 v3 e1 e4 e2 hcl HC1 HR HMu
            go_wp2
            obtain ⟨k1, k2, k3⟩ := HNx.out
            have K1 : Hid _ := k1
            have K2 : Hid _ := k2
            have K3 : Hid _ := k3
            exact ⟨⟨k + 1, by go_num, by omega, K1, K2, K3⟩, by simp [intOf]; omega⟩
          · have hkl : k = l.length := by omega
            subst hkl
            have hlk' : ¬ ((l.length : Int) < l.length) := by omega
            have HCf : Hid (Ck (fun b => F b ∨ w.heap.size ≤ b) wr N bm G most last turns (numP (seenA S l) l 0) n) := (show Ck _ _ _ _ _ _ _ _ _ _ from by have q := HCk.out; rwa [List.take_length] at q)
            have oNr := HCf.out.own
            have n0 : wr.cell? ⟨N, 0, none⟩ = some (.int .i64 most) := oNr.cell 0
            have n1 : wr.cell? ⟨N, 1, none⟩ = some (.int .i64 last) := oNr.cell 1
            have n2 : wr.cell? ⟨N, 2, none⟩ = some (.int .i64 turns) := oNr.cell 2
            have f1 : wr.frozen? ⟨N, 1, none⟩ = false := oNr.fro 1
            have f2 : wr.frozen? ⟨N, 2, none⟩ = false := oNr.fro 2
            have lNr := oNr.lt
            have hfn := HCf.out.fN
            obtain ⟨ht1, ht2⟩ := ht
            clear HCk HC1 HR HMu
            go_wp2
            go_ret
            exact .inr ⟨rfl, ((HCf.out.num l.length).tick (turns + 1)).fresh (fun b q => .inl (.inl q)), Mut.set (S := fun b => ¬ F b) (Mut.set (S := fun b => ¬ F b) HMk.out (a := ⟨N, 1, none⟩) (.inl (fun q => hfn (.inl q))) _) (a := ⟨N, 2, none⟩) (.inl (fun q => hfn (.inl q))) _⟩
      · intro a b w1 cnt1 hx hy hnK hnl hrg1 hlt hmu hs1 hen
        have hle := HG.out.left_eq
        have HG1 : Hid (RangeF w1 bm wa.heap.size n (vf S G) (K ++ [⟨a, b⟩]) cnt1) := hrg1
        have HC1 : Hid (Ck (fun b => F b ∨ w.heap.size ≤ b) w1 N bm G most last turns (seenP S l K) n) := (show Ck _ _ _ _ _ _ _ _ _ _ from HC.out.turn hmu (fun b q => .inr (by rw [q]; exact hBa.size)))
        have HR1 : Hid (RowP G w1 w.heap.size (.slice q l.length cap) l) := (show RowP _ _ _ _ _ from HR.out.mut hmu (fun g q r => hrne.out g q r))
        have HMu1 : Hid (Mut (fun b => ¬ F b) w w1) := (show Mut _ _ _ from HMu.out.call hmu (fun b q => .inr (by rw [q]; exact hBa.size)))
        obtain ⟨p, hp⟩ : ∃ p, S a b = some p := by
          cases e : S a b with
          | none => exact absurd (vf_none e) hnl
          | some p => exact ⟨p, rfl⟩
        have HP : Hid (S a b = some p) := hp
        have HNK : Hid ((⟨a, b⟩ : Cl) ∉ K) := hnK
        have hpv := vf_some (G := G) hp
        rw [hpv] at hen ⊢
        have oG := (HC1.out.st a b p (seenP_out hp hnK)).2
        have g0 : w1.cell? ⟨G a b, 0, none⟩ = some (.int .i64 p.1) := oG.cell 0
        have g1 : w1.cell? ⟨G a b, 1, none⟩ = some (.int .i64 p.2) := oG.cell 1
        have lG := oG.lt
        have hsb := HSe.out a b p hp
        have HKn : Hid (∀ W, Below w1.heap.size w1 W → Calls Try.prog 21 #[.slice q l.length cap, .int .i64 p.2] W fun e w' => e = .returned (.int .i64 (lowC S l (p.2 + 1))) ∧ Below W.heap.size W w') := (show _ from fun W hb => by
          have hk := knot_any W (.slice q l.length cap) (l.map fun c => (⟨G c.r c.c, chg S c.r c.c⟩ : Sk)) p.2 (lst_of (S := S) (HC1.out.keep hb) (HR1.out.keep hb) (HLp.out K)) (by rw [List.length_map]; omega) HSr.out hsb.1 hsb.2
          rw [sk_low] at hk
          exact hk)
        clear hrg1 HR HG HC HMu hmu hnK hnl hp hpv hx hy hs1
        go_wp2_with (go_loud (go_at_call 21; refine (HKn.out _ (by with_reducible (repeat' first | assumption | exact Below.refl _ _ | refine Below.drew ?_ | refine bdrewN ?_ _ | refine Below.setCell ?_ (by first | exact Nat.le_refl _ | (simp; done) | (simp; omega) | omega) _ | refine Below.alloc ?_ (by first | exact Nat.le_refl _ | (simp; done) | (simp; omega) | omega) _))).mono ?_; rintro e wb ⟨rfl, hb⟩; have hBb : Below w1.heap.size w1 wb := bup (by with_reducible (repeat' first | assumption | exact Below.refl _ _ | refine Below.drew ?_ | refine bdrewN ?_ _ | refine Below.setCell ?_ (by first | exact Nat.le_refl _ | (simp; done) | (simp; omega) | omega) _ | refine Below.alloc ?_ (by first | exact Nat.le_refl _ | (simp; done) | (simp; omega) | omega) _)) hb; have oGb := oG.keep hBb; have lGb := oGb.lt; have gb0 : wb.cell? ⟨G a b, 0, none⟩ = some (.int .i64 p.1) := oGb.cell 0; have gb1 : wb.cell? ⟨G a b, 1, none⟩ = some (.int .i64 p.2) := oGb.cell 1; have gf1 : wb.frozen? ⟨G a b, 1, none⟩ = false := oGb.fro 1; clear hb))
        obtain ⟨k1, k2, k3, k4⟩ := anew_see HG1.out HC1.out HR1.out HP.out HNK.out hBb (hBa.size) (HMu1.out.below hBb)
        have K1 : Hid _ := k1
        have K2 : Hid _ := k2
        have K3 : Hid _ := k3
        have K4 : Hid _ := k4
        exact ⟨⟨K ++ [(⟨a, b⟩ : Cl)], cnt1, K1, K2, K3, K4⟩, by rw [k1.left_eq, hle]; exact hlt⟩
end Go.Proofs.Ytmajbophgdimlaa
