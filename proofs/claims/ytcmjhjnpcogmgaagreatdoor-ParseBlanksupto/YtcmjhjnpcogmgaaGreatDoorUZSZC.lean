/- The reader's nextArgument, work and closeBracket, told by the model's state -/
import Derived.Test.YtcmjhjnpcogmgaaGreatDoorUAuto
import Derived.Test.YtcmjhjnpcogmgaaGreatDoorUZR
import Derived.Test.YtcmjhjnpcogmgaaGreatDoorUPC2PT
import Derived.Test.YtcmjhjnpcogmgaaGreatDoorUPKPK2
set_option linter.all false
set_option maxRecDepth 100000
set_option maxHeartbeats 4000000
namespace Go.Proofs.YtcmjhjnpcogmgaaGreatDoor
open Go.Shelf Go.RowKit
def SP (R : Nat) (tb : Value) (tag : Nat → Nat) (w : World) (r : Rs) (e : Ending) (w' : World) : Prop := match r with
 | .ok s => (∃ v, e = .returned v) ∧ ∃ tag' vn vo vr br rm hi, RX w' R tb s tag' vn vo vr br rm hi ∧ Gr tag tag' w w'
 | .error ca => e = .panicked (refC ca.1 ca.2) ∧ Mut (fun b => tag b ≠ 0) w w'
theorem SP.below {R : Nat} {tb : Value} {tag : Nat → Nat} {w w1 w' : World} {r : Rs} {e : Ending} (hb : Below w.heap.size w w1) (h : SP R tb tag w1 r e w') : SP R tb tag w r e w' := by
 cases r with
 | ok s => obtain ⟨hv, tag', vn, vo, vr, br, rm, hi, h1, h2⟩ := h; exact ⟨hv, tag', vn, vo, vr, br, rm, hi, h1, (Gr.below hb).trans h2⟩
 | error ca => exact ⟨h.1, (Gr.below hb).then_mut h.2⟩
theorem SP.gr {R : Nat} {tb : Value} {tag t1 : Nat → Nat} {w w1 w' : World} {r : Rs} {e : Ending} (hg : Gr tag t1 w w1) (h : SP R tb t1 w1 r e w') : SP R tb tag w r e w' := by
 cases r with
 | ok s => obtain ⟨hv, tag', vn, vo, vr, br, rm, hi, h1, h2⟩ := h; exact ⟨hv, tag', vn, vo, vr, br, rm, hi, h1, hg.trans h2⟩
 | error ca => exact ⟨h.1, hg.then_mut h.2⟩
structure En (w : World) (tag : Nat → Nat) (fp : Option Addr) (fn fc : Nat) (fl : List Fu) : Prop where
 fv : FV w (.slice fp fn fc) fl
 ft : fl ≠ [] → ∀ a, fp = some a → tag a.block = 0
 len : fl.length ≤ 140737488355328
 kz : ∀ x ∈ fl, x.kinds.size ≤ 281474976710656
 sg : Sgn w
 st : tag 0 = 0
theorem FV.mut {S : Nat → Prop} {w w' : World} {fp : Option Addr} {fn fc : Nat} {fl : List Fu} (h : FV w (.slice fp fn fc) fl) (hm : Mut S w w') (hn : fl ≠ [] → ∀ a, fp = some a → ¬ S a.block) : FV w' (.slice fp fn fc) fl := by
 obtain ⟨p, cap, e, hle, hx⟩ := h
 refine ⟨p, cap, e, hle, fun h0 => ?_⟩
 obtain ⟨b, q, hp, hlt, hc⟩ := hx h0
 have hb := hm.block b hlt (hn (by intro e; rw [e] at h0; simp at h0) ⟨b, q, none⟩ (by cases e; exact hp))
 exact ⟨b, q, hp, Nat.lt_of_lt_of_le hlt hm.size, fun i x hi j hj => by rw [← hc i x hi j hj]; exact World.cell?_of_block hb⟩
theorem En.keep {w w' : World} {tag : Nat → Nat} {fp : Option Addr} {fn fc : Nat} {fl : List Fu} (h : En w tag fp fn fc fl) (hb : Below w.heap.size w w') : En w' tag fp fn fc fl :=
 ⟨h.fv.keep hb, h.ft, h.len, h.kz, h.sg.of (hb.block _ h.sg.lt), h.st⟩
theorem En.mut {w w' : World} {tag : Nat → Nat} {fp : Option Addr} {fn fc : Nat} {fl : List Fu} (h : En w tag fp fn fc fl) (hb : Mut (fun b => tag b ≠ 0) w w') : En w' tag fp fn fc fl :=
 ⟨FV.mut h.fv hb (fun h0 a ha hh => hh (h.ft h0 a ha)), h.ft, h.len, h.kz, h.sg.of (hb.block _ h.sg.lt (fun hh => hh h.st)), h.st⟩
theorem En.gr {w w' : World} {tag tag' : Nat → Nat} {fp : Option Addr} {fn fc : Nat} {fl : List Fu} (h : En w tag fp fn fc fl) (hg : Gr tag tag' w w') : En w' tag' fp fn fc fl := by
 have hm := h.mut hg.mu
 refine ⟨hm.fv, fun h0 a ha => ?_, hm.len, hm.kz, hm.sg, ?_⟩
 ·obtain ⟨p, cap, e, hle, hx⟩ := h.fv
  obtain ⟨b, q, hp, hlt, _⟩ := hx (List.length_pos_iff.2 h0)
  cases e
  rw [hp] at ha; cases ha
  exact Classical.byContradiction fun hne => by
   rcases hg.grow b hne with h1 | h1
   ·exact h1 (h.ft h0 _ hp)
   ·omega
 ·exact Classical.byContradiction fun hne => by
   rcases hg.grow _ hne with h1 | h1
   ·exact h1 h.st
   ·have := h.sg.lt; omega
theorem rev_at {α : Type} (bs : List α) (b : α) : (bs.reverse ++ [b])[bs.length]? = some b := by rw [List.getElem?_append_right (by simp)]; simp
theorem rev_set {α : Type} (bs : List α) (b c : α) : (bs.reverse ++ [b]).set bs.length c = bs.reverse ++ [c] := by rw [List.set_append_right _ _ (by simp)]; simp
theorem RX.inner {w : World} {R : Nat} {tb : Value} {s : St} {tag : Nat → Nat} {vn vo vr : Value} {br : List Bc} {rm : List Wt} {hi : Nat} (h : RX w R tb s tag vn vo vr br rm hi) {l : Lv} {r : List Lv} (ho : s.op = l :: r) : ∃ go capo b bs, vo = .slice (some ⟨go, 0, none⟩) (r.length + 1) capo ∧ br = b :: bs ∧ bs.length = r.length ∧ b.nm = l.nm ∧ b.ahead = ((l.out.length + aheadOf r : Nat) : Int) ∧ LRow w b.rv l.rl ∧ (∀ g, b.rv.ownBlock = some g → tag g = 5 + r.length) ∧ l.nm.str.size ≤ 281474976710656 ∧ BL w tag bs r ∧
  BRow w (.slice (some ⟨go, 0, none⟩) (r.length + 1) capo) (bs.reverse ++ [b]) ∧ (bs.reverse ++ [b])[r.length]? = some b ∧ (bs.reverse ++ [b]).length = r.length + 1 ∧ r.length + 1 ≤ capo ∧ go ≠ R ∧ tag go = 3 ∧ r.length < 32 := by
 have hbl := h.bl
 have hop := h.fit.op
 rw [ho] at hbl hop
 cases br with
 | nil => exact hbl.elim
 | cons b bs =>
  obtain ⟨h1, h2, h3, h4, h5, h6⟩ := hbl
  have hl := BL.len h6
  have hb := h.b
  rw [List.reverse_cons] at hb
  rcases Rf.Row.two Bc_size hb with ⟨_, e⟩ | ⟨g, cap, e, _, _, hc, _⟩
  ·simp at e
  ·have e2 : (bs.reverse ++ [b]).length = r.length + 1 := by simp [hl]
   rw [e2] at e hc
   rw [e] at hb
   refine ⟨g, cap, b, bs, e, rfl, hl, h1, h2, h3, h4, h5, h6, hb, ?_, e2, hc, h.oeR g (by rw [e]; rfl), h.to' g (by rw [e]; rfl), by simp at hop; omega⟩
   rw [← hl]; exact rev_at bs b
theorem RX.noBr {w : World} {R : Nat} {tb : Value} {s : St} {tag : Nat → Nat} {vn vo vr : Value} {br : List Bc} {rm : List Wt} {hi : Nat} (h : RX w R tb s tag vn vo vr br rm hi) (ho : s.op = []) : ∃ p cap, vo = .slice p 0 cap := by
 obtain ⟨p, cap, hvo, _, _⟩ := h.b.slice
 rw [List.length_reverse, h.bl.len, ho] at hvo
 exact ⟨p, cap, hvo⟩
theorem next_any {w : World} {R : Nat} {tb : Value} {s : St} {tag : Nat → Nat} {vn vo vr : Value} {br : List Bc} {rm : List Wt} {hi : Nat} (h : RX w R tb s tag vn vo vr br rm hi) (a : Int) : Calls Tryz.prog 98 #[.pointer (some ⟨R, 0, none⟩), .int .i64 a] w (SP R tb tag w (nextS s a)) := by
 cases ho : s.op with
 | nil =>
  obtain ⟨p, cap, rfl⟩ := h.noBr ho
  unfold nextS; rw [ho]
  exact (next_e w R tb vn vr vr s.pl s.nm s.ct p cap a h.own).mono fun e w' ⟨h1, h2⟩ => ⟨h1, (Mut.refl _ _).below h2⟩
 | cons l r =>
  obtain ⟨go, capo, b, bs, rfl, rfl, hbs, b1, b2, b3, b4, b5, b6, hrow, hat, hlen, hcap, hgo, htg, hr⟩ := h.inner ho
  obtain ⟨bn, rv, ah⟩ := b
  dsimp only at b1 b2 b3 b4
  subst b1
  have hrl := h.fit.rl l (by rw [ho]; simp)
  obtain ⟨rp, rc, rfl, _, _⟩ := b3.slice
  by_cases hk : l.nm.kind = 3
  ·have hk' : (l.nm.kind == 3) = true := by simpa using hk
   by_cases hf : l.rl.length = 15
   ·have e : nextS s a = .error (8, a) := by unfold nextS; rw [ho]; simp [hf]
    rw [e]
    rw [hf] at hat hrow hlen
    exact (next_f w R tb vn vr vr s.pl s.nm s.ct go r.length capo _ l.nm ah rp rc a h.own hrow hat hlen hk' zq17).mono fun e w' ⟨h1, h2⟩ => ⟨h1, (Mut.refl _ _).below h2⟩
   ·have e : nextS s a = .ok ⟨1, s.nm, s.ns, ⟨l.nm, l.rl ++ [s.pl == 5], l.out⟩ :: r, s.cur⟩ := by unfold nextS; rw [ho]; simp [hf, hk]
    rw [e]
    refine (next_y w R tb vn vr vr s.pl s.nm s.ct go r.length capo _ l.nm ah rp rc l.rl a h.own hrow hat hlen hk' zq17 b3 zq17 hgo (fun g hg => ⟨fun e => by have := b4 g hg; rw [e, h.tR] at this; omega, fun e => by have := b4 g hg; rw [e, htg] at this; omega⟩)).mono ?_
    rintro e w' ⟨hv, rv', h1, h2, h3, h4, h5⟩
    have hk2 : ∀ g, g < w.heap.size → tag g ≠ 1 → tag g ≠ 3 → tag g ≠ 5 + r.length → w'.heap[g]? = w.heap[g]? := fun g hg a1 a2 a3 => h4.block g hg (fun hh => by rcases hh with e | e | e; exact a1 (by rw [e]; exact h.tR); exact a2 (by rw [e]; exact htg); exact a3 (b4 g e))
    have hct : St.ct ⟨1, s.nm, s.ns, ⟨l.nm, l.rl ++ [s.pl == 5], l.out⟩ :: r, s.cur⟩ = s.ct := by simp [St.ct, aheadOf, ho]
    have hall : St.all ⟨1, s.nm, s.ns, ⟨l.nm, l.rl ++ [s.pl == 5], l.out⟩ :: r, s.cur⟩ = s.all := by simp [St.all, outs, ho]
    have hset : (bs.reverse ++ [(⟨l.nm, .slice rp l.rl.length rc, ah⟩ : Bc)]).set r.length ⟨l.nm, rv', ah⟩ = bs.reverse ++ [⟨l.nm, rv', ah⟩] := by
     rw [← hbs]; exact rev_set bs _ _
    rw [hset] at h2
    refine ⟨hv, retag tag w.heap.size rv' (5 + r.length), vn, _, vr, ⟨l.nm, rv', ah⟩ :: bs, rm, hi, ⟨by rw [hct]; exact h1, h.n.of_block fun g hg => hk2 g (h.n.lt g hg).2 (by rw [h.tn g hg]; decide) (by rw [h.tn g hg]; decide) (by rw [h.tn g hg]; omega), by rw [List.reverse_cons]; exact h2,
     h.r.of_block fun g hg => hk2 g (h.r.lt g hg).2 (by rw [h.tr g hg]; decide) (by rw [h.tr g hg]; decide) (by rw [h.tr g hg]; omega),
     ⟨rfl, b2, h3, retag_new h5 b4, b5, b6.turn fun g hg h6 h7 => ⟨hk2 g hg zq17 zq17 zq17, retag_old hg⟩⟩, by rw [hall]; exact h.ring, by rw [retag_old h.own.lt]; exact h.tR, fun g hg => by rw [retag_old (h.n.lt g hg).2]; exact h.tn g hg, fun g hg => by rw [retag_old (hrow.lt g hg).2]; exact h.to' g hg, fun g hg => by rw [retag_old (h.r.lt g hg).2]; exact h.tr g hg,
     retag_sup h.sup h4.size (fun g hg => (h3.lt g hg).2), ⟨h.fit.ns, by simp; omega, ?_⟩, h.nsz⟩, retag_grow, h4.mono fun b hb => by rcases hb with e | e | e; (rw [e, h.tR]; decide); (rw [e, htg]; decide); (rw [b4 b e]; omega)⟩
    intro l' hl'
    rcases List.mem_cons.1 hl' with rfl | hl'
    ·simp; omega
    ·exact h.fit.rl l' (by rw [ho]; simp [hl'])
  ·have hk' : (l.nm.kind == 3) = false := by simpa using hk
   have e : nextS s a = .error (8, a) := by unfold nextS; rw [ho]; simp [hk]
   rw [e]
   exact (next_b w R tb vn vr vr s.pl s.nm s.ct go r.length capo _ _ a h.own hrow hat hlen hk' zq17).mono fun e w' ⟨h1, h2⟩ => ⟨h1, (Mut.refl _ _).below h2⟩
theorem RX.worked {w : World} {R : Nat} {tb : Value} {s : St} {tag : Nat → Nat} {vn vo vr : Value} {br : List Bc} {rm : List Wt} {hi : Nat} (h : RX w R tb s tag vn vo vr br rm hi) {w' : World} {vn' : Value} {c : List Wt} {n : List Rf.Nd} (hr : Ring rm (c ++ outs s.op) hi n.length) (hn : n.length ≤ 1024) (h1 : Own w' R (rdC tb s.pl s.nm vn' vo vr ((c.length + aheadOf s.op : Nat) : Int))) (h2 : NRow w' vn' n) (h3 : Mut (fun b => b = R ∨ vn.ownBlock = some b) w w') (h4 : ∀ b, vn'.ownBlock = some b → vn.ownBlock = some b ∨ w.heap.size ≤ b) :
  ∃ tag', RX w' R tb ⟨s.pl, s.nm, n, s.op, c⟩ tag' vn' vo vr br rm hi ∧ Gr tag tag' w w' := by
 have hk : ∀ g, g < w.heap.size → tag g ≠ 1 → tag g ≠ 2 → w'.heap[g]? = w.heap[g]? := fun g hg a1 a2 => h3.block g hg (fun hh => by rcases hh with e | e; exact a1 (by rw [e]; exact h.tR); exact a2 (h.tn g e))
 exact ⟨retag tag w.heap.size vn' 2, ⟨h1, h2, h.b.of_block fun g hg => hk g (h.b.lt g hg).2 (by rw [h.to' g hg]; decide) (by rw [h.to' g hg]; decide), h.r.of_block fun g hg => hk g (h.r.lt g hg).2 (by rw [h.tr g hg]; decide) (by rw [h.tr g hg]; decide),
  h.bl.turn fun g hg h5 _ => ⟨hk g hg zq17 zq17, retag_old hg⟩, hr, by rw [retag_old h.own.lt]; exact h.tR, retag_new h4 h.tn, fun g hg => by rw [retag_old (h.b.lt g hg).2]; exact h.to' g hg, fun g hg => by rw [retag_old (h.r.lt g hg).2]; exact h.tr g hg,
  retag_sup h.sup h3.size (fun g hg => (h2.lt g hg).2), ⟨hn, h.fit.op, h.fit.rl⟩, h.nsz⟩, retag_grow, h3.mono fun b hb => by rcases hb with e | e; (rw [e, h.tR]; decide); (rw [h.tn b e]; decide)⟩
theorem work_any {w : World} {R : Nat} {tb : Value} {s : St} {tag : Nat → Nat} {vn vo vr : Value} {br : List Bc} {rm : List Wt} {hi : Nat} (h : RX w R tb s tag vn vo vr br rm hi) (hc : s.ct < 1000000000) (h0 : s.ns ≠ []) (lev : Int) : Calls Tryz.prog 97 #[.pointer (some ⟨R, 0, none⟩), .int .i64 lev] w (SP R tb tag w (workS s lev)) := by
 have h0' : 0 < s.ns.length := List.length_pos_iff.2 h0
 have hlen := s.all_len
 by_cases hrm : rm = []
 ·have hct : s.ct = 0 := by
   have h1 := h.ring.len
   have h2 := h.ring.up
   rw [hrm] at h1
   rw [hlen] at h2
   simp at h1
   omega
  have hcur : s.cur = [] := by
   unfold St.ct at hct
   exact List.eq_nil_of_length_eq_zero zq17
  have hah : aheadOf s.op = 0 := by unfold St.ct at hct; omega
  have e : workS s lev = .ok ⟨s.pl, s.nm, s.ns, s.op, []⟩ := by unfold workS; rw [hcur]; rfl
  rw [e]
  have hs : (⟨s.pl, s.nm, s.ns, s.op, []⟩ : St) = s := by rw [← hcur]
  rw [hs]
  have hown := h.own
  rw [hct] at hown
  cases ho : s.op with
  | nil =>
   obtain ⟨p, cap, rfl⟩ := h.noBr ho
   exact (work_z w R tb vn vr s.pl s.nm lev p cap hown).mono fun e w' ⟨h1, h2⟩ => ⟨h1, tag, vn, _, vr, br, rm, hi, h.keep h2, Gr.below h2⟩
  | cons l r =>
   obtain ⟨go, capo, b, bs, rfl, rfl, hbs, b1, b2, b3, b4, b5, b6, hrow, hat, hlen', hcap, hgo, htg, hr⟩ := h.inner ho
   have hb0 : b.ahead = ((0 : Nat) : Int) := by rw [b2]; rw [ho] at hah; simp only [aheadOf] at hah; rw [hah]
   exact (work_zb w R tb vn vr s.pl s.nm lev go r.length capo _ b hown hrow hat hb0 zq17).mono fun e w' ⟨h1, h2⟩ => ⟨h1, tag, vn, _, vr, _, rm, hi, h.keep h2, Gr.below h2⟩
 ·rcases Rf.Row.two Wt_size h.r with ⟨_, e⟩ | ⟨gr, capr, e, _, _, _⟩
  ·exact absurd e hrm
  ·subst e
   have hW : wrk rm (outs s.op).length lev (s.cur.length + (outs s.op).length) s.ns = _ ∧ _ := wrk_wkS lev s.cur s.ns h.ring h0' h.fit.ns
   obtain ⟨hw1, hw2⟩ := hW
   rw [outs_len] at hw1
   have hcu : s.cur.length + aheadOf s.op = s.ct := rfl
   rw [hcu] at hw1
   have hrl := h.ring.len
   have hhi := h.ring.up
   rw [hlen] at hhi
   have hrm1 : rm.length ≤ 1024 := by omega
   have hctr : s.ct ≤ rm.length ∨ rm.length = 1024 := by omega
   have hgn : ∀ g, vn.ownBlock = some g → g ≠ gr := fun g hg e => by have := h.tn g hg; rw [e, h.tr gr rfl] at this; omega
   cases hws : wkS lev s.cur s.ns with
   | error a =>
    have e : workS s lev = .error (8, a) := by unfold workS; rw [hws]
    rw [e]
    rw [hws] at hw1
    dsimp only at hw1
    cases ho : s.op with
    | nil =>
     obtain ⟨p, cap, rfl⟩ := h.noBr ho
     rw [ho] at hw1
     refine (work_en w R tb vn (.slice (some ⟨gr, 0, none⟩) rm.length capr) s.pl s.nm s.ct lev gr capr rm s.ns p cap h.own h.n h.r h.neR (h.reR gr rfl) hgn hrm1 hctr hc h.fit.ns a hw1).mono ?_
     intro e w' hp
     have hw1' : wrk rm 0 lev s.ct s.ns = .error a := hw1
     rw [hw1'] at hp
     exact ⟨hp.1, hp.2.mono fun b hb => by rcases hb with e | e; (rw [e, h.tR]; decide); (rw [h.tn b e]; decide)⟩
    | cons l r =>
     obtain ⟨go, capo, b, bs, rfl, rfl, hbs, b1, b2, b3, b4, b5, b6, hrow, hat, hlen', hcap, hgo, htg, hr⟩ := h.inner ho
     rw [ho] at hw1
     refine (work_bn w R tb vn (.slice (some ⟨gr, 0, none⟩) rm.length capr) s.pl s.nm s.ct (l.out.length + aheadOf r) lev gr capr rm s.ns go r.length capo _ b h.own h.n h.r hrow hat b2 zq17 h.neR (h.reR gr rfl) hgn hrm1 hctr hc h.fit.ns a hw1).mono ?_
     intro e w' hp
     have hw1' : wrk rm (l.out.length + aheadOf r) lev s.ct s.ns = .error a := hw1
     rw [hw1'] at hp
     exact ⟨hp.1, hp.2.mono fun b hb => by rcases hb with e | e; (rw [e, h.tR]; decide); (rw [h.tn b e]; decide)⟩
   | ok cn =>
    obtain ⟨c, n⟩ := cn
    have e : workS s lev = .ok ⟨s.pl, s.nm, n, s.op, c⟩ := by unfold workS; rw [hws]
    rw [e]
    obtain ⟨k1, k2, k3⟩ := hw2 c n hws
    rw [hws] at hw1
    dsimp only at hw1
    cases ho : s.op with
    | nil =>
     obtain ⟨p, cap, rfl⟩ := h.noBr ho
     rw [ho] at hw1
     refine (work_e w R tb vn (.slice (some ⟨gr, 0, none⟩) rm.length capr) s.pl s.nm s.ct lev gr capr rm s.ns p cap h.own h.n h.r h.neR (h.reR gr rfl) hgn hrm1 hctr hc h.fit.ns _ n hw1).mono ?_
     intro e w' hp
     have hw1' : wrk rm 0 lev s.ct s.ns = .ok (c.length + aheadOf [], n) := hw1
     rw [hw1'] at hp
     obtain ⟨hv, vn', q1, q2, q3, q4⟩ := hp
     obtain ⟨tag', z1, z2⟩ := h.worked k1 k3 (by rw [ho]; exact q1) q2 q3 q4
     rw [ho] at z1
     exact ⟨hv, tag', _, _, _, _, _, _, z1, z2⟩
    | cons l r =>
     obtain ⟨go, capo, b, bs, rfl, rfl, hbs, b1, b2, b3, b4, b5, b6, hrow, hat, hlen', hcap, hgo, htg, hr⟩ := h.inner ho
     rw [ho] at hw1
     refine (work_b w R tb vn (.slice (some ⟨gr, 0, none⟩) rm.length capr) s.pl s.nm s.ct (l.out.length + aheadOf r) lev gr capr rm s.ns go r.length capo _ b h.own h.n h.r hrow hat b2 zq17 h.neR (h.reR gr rfl) hgn hrm1 hctr hc h.fit.ns _ n hw1).mono ?_
     intro e w' hp
     have hw1' : wrk rm (l.out.length + aheadOf r) lev s.ct s.ns = .ok (c.length + aheadOf (l :: r), n) := hw1
     rw [hw1'] at hp
     obtain ⟨hv, vn', q1, q2, q3, q4⟩ := hp
     obtain ⟨tag', z1, z2⟩ := h.worked k1 k3 (by rw [ho]; exact q1) q2 q3 q4
     rw [ho] at z1
     exact ⟨hv, tag', _, _, _, _, _, _, z1, z2⟩
end Go.Proofs.YtcmjhjnpcogmgaaGreatDoor
namespace Go.Proofs.YtcmjhjnpcogmgaaGreatDoor
open Go.Shelf Go.RowKit
theorem takes_in {w1 : World} {v rv : Value} {fl : List Fu} {rl : List Bool} {x : ByteArray} {b : Bool} (hF : FV w1 v fl) (hL : fl.length ≤ 140737488355328) (hz : ∀ x ∈ fl, x.kinds.size ≤ 281474976710656) (hr : LRow w1 rv rl) (hm : rl.length ≤ 1000) (hT : takesB fl x rl = b) :
  ∀ w2, Below w1.heap.size w1 w2 → Calls Tryz.prog 143 #[v, .string x, rv] w2 fun e w' => e = .returned (.bool b) ∧ Below w2.heap.size w2 w' := fun w2 hb => by
 rw [← hT]; exact takes_any w2 v fl x rv rl (hF.keep hb) hL hz (hr.keep hb) hm
theorem RX.closed {w : World} {R : Nat} {s : St} {tag : Nat → Nat} {vn vo vr : Value} {br : List Bc} {rm : List Wt} {hi : Nat} {fp : Option Addr} {fn fc : Nat} (h : RX w R (.iface 29 (.slice fp fn fc)) s tag vn vo vr br rm hi) {l : Lv} {r : List Lv} (ho : s.op = l :: r) {go capo : Nat} {b : Bc} {bs : List Bc} (evo : vo = .slice (some ⟨go, 0, none⟩) (r.length + 1) capo) (ebr : br = b :: bs) (hbs : bs.length = r.length) (b4 : ∀ g, b.rv.ownBlock = some g → tag g = 5 + r.length) (b6 : BL w tag bs r)
  (hrow : BRow w (.slice (some ⟨go, 0, none⟩) (r.length + 1) capo) (bs.reverse ++ [b])) {w' : World} {vn' : Value} {n : List Rf.Nd} (hn : n.length ≤ 1024) (hn2 : s.ns.length ≤ n.length) (h1 : Own w' R (rdC (.iface 29 (.slice fp fn fc)) 4 s.nm vn' (.slice (some ⟨go, 0, none⟩) r.length capo) vr ((s.ct : Nat) : Int))) (h2 : NRow w' vn' n)
  (h3 : Mut (fun x => x = R ∨ vn.ownBlock = some x ∨ b.rv.ownBlock = some x) w w') (h4 : ∀ b, vn'.ownBlock = some b → vn.ownBlock = some b ∨ w.heap.size ≤ b) :
  ∃ tag', RX w' R (.iface 29 (.slice fp fn fc)) ⟨4, s.nm, n, r, s.cur ++ l.out⟩ tag' vn' (.slice (some ⟨go, 0, none⟩) r.length capo) vr bs rm hi ∧ Gr tag tag' w w' := by
 have hk : ∀ g, g < w.heap.size → tag g ≠ 1 → tag g ≠ 2 → tag g ≠ 5 + r.length → w'.heap[g]? = w.heap[g]? := fun g hg a1 a2 a3 => h3.block g hg (fun hh => by rcases hh with e | e | e; exact a1 (by rw [e]; exact h.tR); exact a2 (h.tn g e); exact a3 (b4 g e))
 have hct : St.ct ⟨4, s.nm, n, r, s.cur ++ l.out⟩ = s.ct := by simp [St.ct, aheadOf, ho]; omega
 have hall : St.all ⟨4, s.nm, n, r, s.cur ++ l.out⟩ = s.all := by simp [St.all, outs, ho]
 have htg : tag go = 3 := h.to' go (by rw [evo]; rfl)
 have hbr : BRow w (.slice (some ⟨go, 0, none⟩) r.length capo) bs.reverse := by
  have := Rf.Row.take Bc_size hrow (k := r.length) (by simp; omega)
  rwa [List.take_append_of_le_length (by simp [hbs]), List.take_of_length_le (by simp [hbs])] at this
 refine ⟨retag tag w.heap.size vn' 2, ⟨by rw [hct]; exact h1, h2, hbr.of_block fun g hg => ?_, h.r.of_block fun g hg => hk g (h.r.lt g hg).2 (by rw [h.tr g hg]; decide) (by rw [h.tr g hg]; decide) (by rw [h.tr g hg]; omega),
  b6.turn fun g hg h6 h7 => ⟨hk g hg zq17 zq17 zq17, retag_old hg⟩, by rw [hall]; exact h.ring.more hn2, by rw [retag_old h.own.lt]; exact h.tR, retag_new h4 h.tn, fun g hg => ?_, fun g hg => by rw [retag_old (h.r.lt g hg).2]; exact h.tr g hg,
  retag_sup h.sup h3.size (fun g hg => (h2.lt g hg).2), ⟨hn, by have := h.fit.op; rw [ho] at this; simp at this; show r.length ≤ 32; omega, fun l' hl' => h.fit.rl l' (by rw [ho]; simp [show l' ∈ r from hl'])⟩, h.nsz⟩, retag_grow, h3.mono fun x hx => by rcases hx with e | e | e; (rw [e, h.tR]; decide); (rw [h.tn x e]; decide); (rw [b4 x e]; omega)⟩
 ·have e := own_is hg; subst e
  exact hk go (hbr.lt go hg).2 (by rw [htg]; decide) (by rw [htg]; decide) (by rw [htg]; omega)
 ·have e := own_is hg; subst e
  rw [retag_old (hbr.lt go hg).2]; exact htg
theorem close_any {w : World} {R : Nat} {s : St} {tag : Nat → Nat} {vn vo vr : Value} {br : List Bc} {rm : List Wt} {hi : Nat} {fp : Option Addr} {fn fc : Nat} {fl : List Fu} (h : RX w R (.iface 29 (.slice fp fn fc)) s tag vn vo vr br rm hi) (hE : En w tag fp fn fc fl) (hp : s.pl = 2 ∨ s.pl = 4 ∨ s.pl = 5) (a : Int) : Calls Tryz.prog 54 #[.pointer (some ⟨R, 0, none⟩), .int .i64 a] w (SP R (.iface 29 (.slice fp fn fc)) tag w (closeS (takesB fl) s a)) := by
 cases ho : s.op with
 | nil =>
  obtain ⟨p, cap, rfl⟩ := h.noBr ho
  have e : closeS (takesB fl) s a = .error (8, a) := by unfold closeS; rw [ho]
  rw [e]
  exact (close_e w R (.iface 29 (.slice fp fn fc)) vn vr vr s.pl s.nm s.ct p cap a h.own).mono fun e w' ⟨h1, h2⟩ => ⟨h1, (Mut.refl _ _).below h2⟩
 | cons l r =>
  obtain ⟨go, capo, b, bs, evo, ebr, hbs, b1, b2, b3, b4, b5, b6, hrow, hat, hlen, hcap, hgo, htg, hr⟩ := h.inner ho
  obtain ⟨bn, rv, ah⟩ := b
  dsimp only at b1 b2 b3 b4
  subst b1
  have hrl := h.fit.rl l (by rw [ho]; simp)
  have hown := h.own
  obtain ⟨rp, rc, erv, _, _⟩ := b3.slice
  rw [evo] at hown
  rw [erv] at hat b3 hlen
  have hat' := hat
  by_cases hk : l.nm.kind = 3
  ·have hk' : (l.nm.kind == 3) = true := by simpa using hk
   have hNw : ∀ w1, Mut (fun b => b = R) w w1 → NRow w1 vn s.ns := fun w1 hm => h.n.of_block fun g hg => hm.block g (h.n.lt g hg).2 (fun e => h.neR g hg e)
   have hFw : ∀ w1, Mut (fun x => x = R ∨ rv.ownBlock = some x) w w1 → FV w1 (.slice fp fn fc) fl := fun w1 hm => (hE.mut (hm.mono fun x hx => by rcases hx with e | e; (rw [e, h.tR]; decide); (rw [b4 x e]; omega))).fv
   by_cases hp2 : s.pl = 2
   ·have hLw : ∀ w1, Mut (fun b => b = R) w w1 → LRow w1 (.slice rp l.rl.length rc) l.rl := fun w1 hm => b3.of_block fun g hg => hm.block g (b3.lt g hg).2 (fun e => by have := b4 g (by rw [erv]; exact hg); rw [e, h.tR] at this; omega)
    have eC : closeS (takesB fl) s a = thenS (callS (takesB fl) ⟨s.pl, s.nm, s.ns, r, s.cur ++ l.out⟩ l.nm l.rl) (fun u => .ok (u.to 4)) := by unfold closeS; rw [ho]; simp [hk, hp2]
    rw [eC]
    cases hT : takesB fl l.nm.str l.rl with
    | false =>
     have e : thenS (callS (takesB fl) ⟨s.pl, s.nm, s.ns, r, s.cur ++ l.out⟩ l.nm l.rl) (fun u => .ok (u.to 4)) = .error (8, l.nm.at') := by unfold callS; rw [hT]; rfl
     rw [e]
     refine (close_0p w R (.iface 29 (.slice fp fn fc)) vn vo vr s.pl s.nm s.ct go r.length capo _ l.nm ah rp l.rl.length rc a (refC 8 l.nm.at') hp2 hown (by rw [erv] at hrow; exact hrow) hat hlen hk' zq17 hcap hgo ?_).mono fun e w' ⟨h1, h2⟩ => ⟨h1, h2.mono fun x hx => by rcases hx with e | e; (rw [e, h.tR]; decide); (rw [h.tn x e]; decide)⟩
     intro w1 ow1 mw1
     exact (call_n w1 R (.iface 29 (.slice fp fn fc)) vn _ vr s.pl s.nm s.ct fp fn fc l.nm _ ow1 (takes_in (hFw w1 (mw1.mono fun _ h => .inl h)) hE.len hE.kz (hLw w1 mw1) zq17 hT)).mono fun e w' ⟨h1, h2⟩ => ⟨h1, (Mut.refl _ _).below h2⟩
    | true =>
     by_cases hf : s.ns.length = 1024
     ·have e : thenS (callS (takesB fl) ⟨s.pl, s.nm, s.ns, r, s.cur ++ l.out⟩ l.nm l.rl) (fun u => .ok (u.to 4)) = .error (8, l.nm.at') := by unfold callS addS; rw [hT]; simp [hf, thenS]
      rw [e]
      obtain ⟨np, ncap, envn, _, _⟩ := h.n.slice
      rw [hf] at envn
      refine (close_0p w R (.iface 29 (.slice fp fn fc)) vn vo vr s.pl s.nm s.ct go r.length capo _ l.nm ah rp l.rl.length rc a (refC 8 l.nm.at') hp2 hown (by rw [erv] at hrow; exact hrow) hat hlen hk' zq17 hcap hgo ?_).mono fun e w' ⟨h1, h2⟩ => ⟨h1, h2.mono fun x hx => by rcases hx with e | e; (rw [e, h.tR]; decide); (rw [h.tn x e]; decide)⟩
      intro w1 ow1 mw1
      rw [envn] at ow1
      exact (call_f w1 R (.iface 29 (.slice fp fn fc)) vn _ vr s.pl s.nm s.ct fp fn fc l.nm rp rc l.rl np ncap ow1 b5 (takes_in (hFw w1 (mw1.mono fun _ h => .inl h)) hE.len hE.kz (hLw w1 mw1) zq17 hT)).mono fun e w' ⟨h1, h2⟩ => ⟨h1, (Mut.refl _ _).below h2⟩
     ·have e : thenS (callS (takesB fl) ⟨s.pl, s.nm, s.ns, r, s.cur ++ l.out⟩ l.nm l.rl) (fun u => .ok (u.to 4)) = .ok ⟨4, s.nm, s.ns ++ [callNd l.nm.str l.rl.length], r, s.cur ++ l.out⟩ := by unfold callS addS; rw [hT]; simp [hf, thenS, St.to]
      rw [e]
      have hns := h.fit.ns
      refine (close_0r w R (.iface 29 (.slice fp fn fc)) vn vo vr s.pl s.nm s.ct go r.length capo _ l.nm ah rp l.rl.length rc a (s.ns ++ [callNd l.nm.str l.rl.length]) h.neR hp2 hown (by rw [erv] at hrow; exact hrow) hat hlen hk' zq17 hcap hgo ?_).mono ?_
      ·intro w1 ow1 mw1
       exact call_y w1 R (.iface 29 (.slice fp fn fc)) vn _ vr s.pl s.nm s.ct fp fn fc l.nm rp rc l.rl ow1 b5 s.ns (hNw w1 mw1) zq17 h.neR (takes_in (hFw w1 (mw1.mono fun _ h => .inl h)) hE.len hE.kz (hLw w1 mw1) zq17 hT)
      ·rintro e w' ⟨hv, vn', q1, q2, q3, q4⟩
       obtain ⟨tag', z1, z2⟩ := h.closed ho evo ebr hbs b4 b6 hrow (by simp; omega) (by simp) q1 q2 (q3.mono fun x hx => by rcases hx with e | e; exact .inl e; exact .inr (.inl e)) q4
       exact ⟨hv, tag', _, _, _, _, _, _, z1, z2⟩
   ·have eC : closeS (takesB fl) s a = thenS (callS (takesB fl) ⟨s.pl, s.nm, s.ns, r, s.cur ++ l.out⟩ l.nm (l.rl ++ [s.pl == 5])) (fun u => .ok (u.to 4)) := by unfold closeS; rw [ho]; simp [hk, hp2]
    rw [eC]
    have hlen2 : (l.rl ++ [s.pl == 5]).length = l.rl.length + 1 := by simp
    have hnq : ∀ g, (Value.slice rp l.rl.length rc).ownBlock = some g → g ≠ R := fun g hg e => by have := b4 g (by rw [erv]; exact hg); rw [e, h.tR] at this; omega
    have hFw2 : ∀ w1, Mut (fun b => b = R ∨ (.slice rp l.rl.length rc : Value).ownBlock = some b) w w1 → FV w1 (.slice fp fn fc) fl := fun w1 hm => hFw w1 (by rw [erv]; exact hm)
    have hNw2 : ∀ w1, Mut (fun b => b = R ∨ (.slice rp l.rl.length rc : Value).ownBlock = some b) w w1 → NRow w1 vn s.ns := fun w1 hm => h.n.of_block fun g hg => hm.block g (h.n.lt g hg).2 (fun e => by rcases e with e | e; exact h.neR g hg e; have := b4 g (by rw [erv]; exact e); rw [h.tn g hg] at this; omega)
    cases hT : takesB fl l.nm.str (l.rl ++ [s.pl == 5]) with
    | false =>
     have e : thenS (callS (takesB fl) ⟨s.pl, s.nm, s.ns, r, s.cur ++ l.out⟩ l.nm (l.rl ++ [s.pl == 5])) (fun u => .ok (u.to 4)) = .error (8, l.nm.at') := by unfold callS; rw [hT]; rfl
     rw [e]
     refine (close_1p w R (.iface 29 (.slice fp fn fc)) vn vo vr s.pl s.nm s.ct go r.length capo _ l.nm ah rp rc a (refC 8 l.nm.at') l.rl b3 zq17 hnq h.neR hp2 hown (by rw [erv] at hrow; exact hrow) hat hlen hk' zq17 hcap hgo ?_).mono fun e w' ⟨h1, h2⟩ => ⟨h1, h2.mono fun x hx => by rcases hx with e | e | e; (rw [e, h.tR]; decide); (rw [h.tn x e]; decide); (rw [b4 x (by rw [erv]; exact e)]; omega)⟩
     intro w1 g5 cap5 ow1 lw1 mw1
     exact (call_n w1 R (.iface 29 (.slice fp fn fc)) vn _ vr s.pl s.nm s.ct fp fn fc l.nm _ ow1 (takes_in (hFw2 w1 mw1) hE.len hE.kz lw1 (by rw [hlen2]; omega) hT)).mono fun e w' ⟨h1, h2⟩ => ⟨h1, (Mut.refl _ _).below h2⟩
    | true =>
     by_cases hf : s.ns.length = 1024
     ·have e : thenS (callS (takesB fl) ⟨s.pl, s.nm, s.ns, r, s.cur ++ l.out⟩ l.nm (l.rl ++ [s.pl == 5])) (fun u => .ok (u.to 4)) = .error (8, l.nm.at') := by unfold callS addS; rw [hT]; simp [hf, thenS]
      rw [e]
      obtain ⟨np, ncap, envn, _, _⟩ := h.n.slice
      rw [hf] at envn
      refine (close_1p w R (.iface 29 (.slice fp fn fc)) vn vo vr s.pl s.nm s.ct go r.length capo _ l.nm ah rp rc a (refC 8 l.nm.at') l.rl b3 zq17 hnq h.neR hp2 hown (by rw [erv] at hrow; exact hrow) hat hlen hk' zq17 hcap hgo ?_).mono fun e w' ⟨h1, h2⟩ => ⟨h1, h2.mono fun x hx => by rcases hx with e | e | e; (rw [e, h.tR]; decide); (rw [h.tn x e]; decide); (rw [b4 x (by rw [erv]; exact e)]; omega)⟩
      intro w1 g5 cap5 ow1 lw1 mw1
      rw [envn] at ow1
      have hTI := takes_in (hFw2 w1 mw1) hE.len hE.kz lw1 (by rw [hlen2]; omega) hT
      rw [← hlen2] at hTI ⊢
      exact (call_f w1 R (.iface 29 (.slice fp fn fc)) vn _ vr s.pl s.nm s.ct fp fn fc l.nm (some ⟨g5, 0, none⟩) cap5 (l.rl ++ [s.pl == 5]) np ncap ow1 b5 hTI).mono fun e w' ⟨h1, h2⟩ => ⟨h1, (Mut.refl _ _).below h2⟩
     ·have e : thenS (callS (takesB fl) ⟨s.pl, s.nm, s.ns, r, s.cur ++ l.out⟩ l.nm (l.rl ++ [s.pl == 5])) (fun u => .ok (u.to 4)) = .ok ⟨4, s.nm, s.ns ++ [callNd l.nm.str (l.rl ++ [s.pl == 5]).length], r, s.cur ++ l.out⟩ := by unfold callS addS; rw [hT]; simp [hf, thenS, St.to]
      rw [e]
      have hns := h.fit.ns
      refine (close_1r w R (.iface 29 (.slice fp fn fc)) vn vo vr s.pl s.nm s.ct go r.length capo _ l.nm ah rp rc a (s.ns ++ [callNd l.nm.str (l.rl ++ [s.pl == 5]).length]) l.rl b3 zq17 hnq h.neR hp2 hown (by rw [erv] at hrow; exact hrow) hat hlen hk' zq17 hcap hgo ?_).mono ?_
      ·intro w1 g5 cap5 ow1 lw1 mw1
       have hTI := takes_in (hFw2 w1 mw1) hE.len hE.kz lw1 (by rw [hlen2]; omega) hT
       rw [← hlen2] at hTI ⊢
       exact call_y w1 R (.iface 29 (.slice fp fn fc)) vn _ vr s.pl s.nm s.ct fp fn fc l.nm (some ⟨g5, 0, none⟩) cap5 (l.rl ++ [s.pl == 5]) ow1 b5 s.ns (hNw2 w1 mw1) zq17 h.neR hTI
      ·rintro e w' ⟨hv, vn', q1, q2, q3, q4⟩
       obtain ⟨tag', z1, z2⟩ := h.closed ho evo ebr hbs b4 b6 hrow (by simp; omega) (by simp) q1 q2 (q3.mono fun x hx => by rcases hx with e | e | e; exact .inl e; exact .inr (.inl e); exact .inr (.inr (by show rv.ownBlock = _; rw [erv]; exact e))) q4
       exact ⟨hv, tag', _, _, _, _, _, _, z1, z2⟩
  ·have hk' : (l.nm.kind == 3) = false := by simpa using hk
   have e : closeS (takesB fl) s a = .ok ⟨4, s.nm, s.ns, r, s.cur ++ l.out⟩ := by unfold closeS; rw [ho]; simp [hk]
   rw [e]
   refine (close_p w R (.iface 29 (.slice fp fn fc)) vn vo vr s.pl s.nm s.ct go r.length capo _ l.nm ah rp l.rl.length rc a hown (by rw [erv] at hrow; exact hrow) hat hlen hk' zq17 hcap hgo).mono ?_
   rintro e w' ⟨hv, q1, q3⟩
   have hns := h.fit.ns
   obtain ⟨tag', z1, z2⟩ := h.closed ho evo ebr hbs b4 b6 hrow hns (Nat.le_refl _) q1 (h.n.of_block fun g hg => q3.block g (h.n.lt g hg).2 (fun e => h.neR g hg e)) (q3.mono fun x hx => .inl hx) (fun b hb => .inl hb)
   exact ⟨hv, tag', _, _, _, _, _, _, z1, z2⟩
end Go.Proofs.YtcmjhjnpcogmgaaGreatDoor
