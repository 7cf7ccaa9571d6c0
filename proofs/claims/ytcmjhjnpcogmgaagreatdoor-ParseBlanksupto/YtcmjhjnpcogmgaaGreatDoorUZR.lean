/- How the reader's state lies in memory: its block, the rows of its nodes, brackets, marks a -/
import Derived.Test.YtcmjhjnpcogmgaaGreatDoorUAuto
import Derived.Test.YtcmjhjnpcogmgaaGreatDoorUZIZM
import Derived.Test.YtcmjhjnpcogmgaaGreatDoorUPV3
import Derived.Test.YtcmjhjnpcogmgaaGreatDoorUPLPL2
set_option linter.all false
set_option maxRecDepth 100000
set_option maxHeartbeats 4000000
namespace Go.Proofs.YtcmjhjnpcogmgaaGreatDoor
open Go.Shelf Go.RowKit
abbrev rdC (tb : Value) (pl : Int) (nm : Tk) (vn vo vr : Value) (ct : Int) : Array Value := #[tb, .int .i64 pl, .int .i64 nm.kind, .int .i64 nm.at', .int .i64 nm.num, .string nm.str, .int .i64 nm.c0, .int .i64 nm.c1, .int .i64 nm.r0, .int .i64 nm.r1, .int .i64 nm.r2, .int .i64 nm.r3, .int .i64 nm.code, vn, vo, vr, .int .i64 ct]
def BL (w : World) (tag : Nat → Nat) : List Bc → List Lv → Prop
 | [], [] => True
 | b :: bs, l :: ls => b.nm = l.nm ∧ b.ahead = ((l.out.length + aheadOf ls : Nat) : Int) ∧ LRow w b.rv l.rl ∧ (∀ g, b.rv.ownBlock = some g → tag g = 5 + ls.length) ∧ l.nm.str.size ≤ 281474976710656 ∧ BL w tag bs ls
 | _, _ => False
theorem BL.len {w : World} {tag : Nat → Nat} : ∀ {br : List Bc} {op : List Lv}, BL w tag br op → br.length = op.length
 | [], [], _ => rfl
 | _ :: _, _ :: _, h => by simp [BL.len h.2.2.2.2.2]
 | [], _ :: _, h => h.elim
 | _ :: _, [], h => h.elim
theorem BL.turn {w w' : World} {tag tag' : Nat → Nat} : ∀ {br : List Bc} {op : List Lv}, BL w tag br op → (∀ g, g < w.heap.size → 5 ≤ tag g → tag g < 5 + op.length → w'.heap[g]? = w.heap[g]? ∧ tag' g = tag g) → BL w' tag' br op
 | [], [], _, _ => trivial
 | b :: bs, l :: ls, h, hk => by
  obtain ⟨h1, h2, h3, h4, h5, h6⟩ := h
  refine ⟨h1, h2, h3.of_block fun g hg => (hk g (h3.lt g hg).2 (by rw [h4 g hg]; omega) (by rw [h4 g hg]; simp)).1, fun g hg => ?_, h5, BL.turn h6 fun g a b c => hk g a b (by simp; omega)⟩
  rw [(hk g (h3.lt g hg).2 (by rw [h4 g hg]; omega) (by rw [h4 g hg]; simp)).2]; exact h4 g hg
 | [], _ :: _, h, _ => h.elim
 | _ :: _, [], h, _ => h.elim
structure RX (w : World) (R : Nat) (tb : Value) (s : St) (tag : Nat → Nat) (vn vo vr : Value) (br : List Bc) (rm : List Wt) (hi : Nat) : Prop where
 own : Own w R (rdC tb s.pl s.nm vn vo vr ((s.ct : Nat) : Int))
 n : NRow w vn s.ns
 b : BRow w vo br.reverse
 r : WRow w vr rm
 bl : BL w tag br s.op
 ring : Ring rm s.all hi s.ns.length
 tR : tag R = 1
 tn : ∀ g, vn.ownBlock = some g → tag g = 2
 to' : ∀ g, vo.ownBlock = some g → tag g = 3
 tr : ∀ g, vr.ownBlock = some g → tag g = 4
 sup : ∀ b, tag b ≠ 0 → b < w.heap.size
 fit : Fit s
 nsz : s.nm.str.size ≤ 281474976710656
structure Gr (tag tag' : Nat → Nat) (w w' : World) : Prop where
 grow : ∀ b, tag' b ≠ 0 → tag b ≠ 0 ∨ w.heap.size ≤ b
 mu : Mut (fun b => tag b ≠ 0) w w'
theorem Gr.below {tag : Nat → Nat} {w w' : World} (h : Below w.heap.size w w') : Gr tag tag w w' := ⟨fun _ h => .inl h, (Mut.refl _ _).below h⟩
theorem Gr.trans {t0 t1 t2 : Nat → Nat} {w0 w1 w2 : World} (h : Gr t0 t1 w0 w1) (k : Gr t1 t2 w1 w2) : Gr t0 t2 w0 w2 :=
 ⟨fun b hb => by rcases k.grow b hb with h1 | h1; exact h.grow b h1; have := h.mu.size; exact .inr zq17, h.mu.call k.mu (fun b hb => h.grow b hb)⟩
theorem Gr.then_mut {t0 t1 : Nat → Nat} {w0 w1 w2 : World} (h : Gr t0 t1 w0 w1) (k : Mut (fun b => t1 b ≠ 0) w1 w2) : Mut (fun b => t0 b ≠ 0) w0 w2 := h.mu.call k (fun b hb => h.grow b hb)
theorem RX.keep {w w' : World} {R : Nat} {tb : Value} {s : St} {tag : Nat → Nat} {vn vo vr : Value} {br : List Bc} {rm : List Wt} {hi : Nat} (h : RX w R tb s tag vn vo vr br rm hi) (hb : Below w.heap.size w w') : RX w' R tb s tag vn vo vr br rm hi :=
 ⟨h.own.keep hb, h.n.keep hb, h.b.keep hb, h.r.keep hb, h.bl.turn fun g hg _ _ => ⟨hb.block g hg, rfl⟩, h.ring, h.tR, h.tn, h.to', h.tr, fun b hh => Nat.lt_of_lt_of_le (h.sup b hh) hb.size, h.fit, h.nsz⟩
def retag (tag : Nat → Nat) (n : Nat) (v : Value) (k : Nat) : Nat → Nat := fun b => if n ≤ b then (if v.ownBlock = some b then k else 0) else tag b
theorem retag_old {tag : Nat → Nat} {n : Nat} {v : Value} {k b : Nat} (h : b < n) : retag tag n v k b = tag b := by unfold retag; rw [if_neg zq17]
theorem retag_new {tag : Nat → Nat} {n k : Nat} {v u : Value} (hg : ∀ g, v.ownBlock = some g → u.ownBlock = some g ∨ n ≤ g) (ht : ∀ g, u.ownBlock = some g → tag g = k) : ∀ g, v.ownBlock = some g → retag tag n v k g = k := fun g hv => by
 unfold retag
 simp only [hv, if_true]
 split
 ·rfl
 ·rcases hg g hv with h | h
  ·exact ht g h
  ·omega
theorem retag_grow {tag : Nat → Nat} {n k : Nat} {v : Value} : ∀ b, retag tag n v k b ≠ 0 → tag b ≠ 0 ∨ n ≤ b := fun b h => by
 by_cases hb : n ≤ b
 ·exact .inr hb
 ·rw [retag_old zq17] at h; exact .inl h
theorem retag_sup {tag : Nat → Nat} {n k m : Nat} {v : Value} (hs : ∀ b, tag b ≠ 0 → b < n) (hm : n ≤ m) (hv : ∀ g, v.ownBlock = some g → g < m) : ∀ b, retag tag n v k b ≠ 0 → b < m := fun b h => by
 unfold retag at h
 split at h
 ·split at h
  ·exact hv b zq15
  ·exact absurd rfl h
 ·have := hs b h; omega
theorem RX.set_pl {w : World} {R : Nat} {tb : Value} {s : St} {tag : Nat → Nat} {vn vo vr : Value} {br : List Bc} {rm : List Wt} {hi : Nat} (h : RX w R tb s tag vn vo vr br rm hi) (p : Int) : RX (w.setCell ⟨R, 1, none⟩ (.int .i64 p)) R tb (s.to p) tag vn vo vr br rm hi ∧ Gr tag tag w (w.setCell ⟨R, 1, none⟩ (.int .i64 p)) := by
 have hbl : ∀ g, tag g ≠ 1 → (w.setCell ⟨R, 1, none⟩ (.int .i64 p)).heap[g]? = w.heap[g]? := fun g hg => Below.heap_setCell w ⟨R, 1, none⟩ _ g (fun e => hg (by rw [e]; exact h.tR))
 refine ⟨⟨own_p1 h.own, h.n.of_block fun g hg => hbl g (by rw [h.tn g hg]; decide), h.b.of_block fun g hg => hbl g (by rw [h.to' g hg]; decide), h.r.of_block fun g hg => hbl g (by rw [h.tr g hg]; decide), h.bl.turn fun g _ h5 _ => ⟨hbl g zq17, rfl⟩, h.ring, h.tR, h.tn, h.to', h.tr, fun b hb => by have := h.sup b hb; simpa [World.setCell] using this, ⟨h.fit.ns, h.fit.op, h.fit.rl⟩, h.nsz⟩, fun _ h => .inl h, Mut.set (Mut.refl _ _) (.inl (by show tag R ≠ 0; rw [h.tR]; decide)) _⟩
theorem RX.neR {w : World} {R : Nat} {tb : Value} {s : St} {tag : Nat → Nat} {vn vo vr : Value} {br : List Bc} {rm : List Wt} {hi : Nat} (h : RX w R tb s tag vn vo vr br rm hi) : ∀ g, vn.ownBlock = some g → g ≠ R := fun g hg e => by have := h.tn g hg; rw [e, h.tR] at this; omega
theorem RX.oeR {w : World} {R : Nat} {tb : Value} {s : St} {tag : Nat → Nat} {vn vo vr : Value} {br : List Bc} {rm : List Wt} {hi : Nat} (h : RX w R tb s tag vn vo vr br rm hi) : ∀ g, vo.ownBlock = some g → g ≠ R := fun g hg e => by have := h.to' g hg; rw [e, h.tR] at this; omega
theorem RX.reR {w : World} {R : Nat} {tb : Value} {s : St} {tag : Nat → Nat} {vn vo vr : Value} {br : List Bc} {rm : List Wt} {hi : Nat} (h : RX w R tb s tag vn vo vr br rm hi) : ∀ g, vr.ownBlock = some g → g ≠ R := fun g hg e => by have := h.tr g hg; rw [e, h.tR] at this; omega
theorem add_ok {w : World} {R : Nat} {tb : Value} {s : St} {tag : Nat → Nat} {vn vo vr : Value} {br : List Bc} {rm : List Wt} {hi : Nat} (h : RX w R tb s tag vn vo vr br rm hi) (hl : s.ns.length < 1024) (nd : Rf.Nd) (a : Int) :
  Calls Tryz.prog 55 #[.pointer (some ⟨R, 0, none⟩), .agg #[.int .i64 nd.kind, .int .i64 nd.tag, .int .i64 nd.num, .string nd.str, .bool nd.is, .int .i64 nd.code, .int .i64 nd.row, .int .i64 nd.col, .int .i64 nd.top, .int .i64 nd.left, .int .i64 nd.bot, .int .i64 nd.right, .int .i64 nd.op, .string nd.name, .int .i64 nd.args], .int .i64 a] w fun e w' => (∃ v, e = .returned v) ∧ ∃ x', Own w' R (rdC tb s.pl s.nm x' vo vr ((s.ct : Nat) : Int)) ∧ ∃ tag', RX w' R tb ⟨s.pl, s.nm, s.ns ++ [nd], s.op, s.cur⟩ tag' x' vo vr br rm hi ∧ Gr tag tag' w w' := by
 refine (add_y w R tb vn vo vr s.pl s.nm _ s.ns nd a h.own h.n hl h.neR).mono ?_
 rintro e w' ⟨hv, vn', h1, h2, h3, h4⟩
 have hk : ∀ g, g < w.heap.size → tag g ≠ 1 → tag g ≠ 2 → w'.heap[g]? = w.heap[g]? := fun g hg a1 a2 => h3.block g hg (fun hh => by rcases hh with e | e; exact a1 (by rw [e]; exact h.tR); exact a2 (h.tn g e))
 refine ⟨hv, vn', h1, retag tag w.heap.size vn' 2, ⟨h1, h2, h.b.of_block fun g hg => hk g (h.b.lt g hg).2 (by rw [h.to' g hg]; decide) (by rw [h.to' g hg]; decide), h.r.of_block fun g hg => hk g (h.r.lt g hg).2 (by rw [h.tr g hg]; decide) (by rw [h.tr g hg]; decide),
  h.bl.turn fun g hg h5 _ => ⟨hk g hg zq17 zq17, retag_old hg⟩, h.ring.more (by simp), by rw [retag_old h.own.lt]; exact h.tR, retag_new h4 h.tn, fun g hg => by rw [retag_old (h.b.lt g hg).2]; exact h.to' g hg, fun g hg => by rw [retag_old (h.r.lt g hg).2]; exact h.tr g hg,
  retag_sup h.sup h3.size (fun g hg => (h2.lt g hg).2), ⟨by simp; omega, h.fit.op, h.fit.rl⟩, h.nsz⟩, retag_grow, h3.mono fun b hb => by rcases hb with e | e; (rw [e, h.tR]; decide); (rw [h.tn b e]; decide)⟩
theorem add_no {w : World} {R : Nat} {tb : Value} {s : St} {tag : Nat → Nat} {vn vo vr : Value} {br : List Bc} {rm : List Wt} {hi : Nat} (h : RX w R tb s tag vn vo vr br rm hi) (hl : s.ns.length = 1024) (nd : Rf.Nd) (a : Int) :
  Calls Tryz.prog 55 #[.pointer (some ⟨R, 0, none⟩), .agg #[.int .i64 nd.kind, .int .i64 nd.tag, .int .i64 nd.num, .string nd.str, .bool nd.is, .int .i64 nd.code, .int .i64 nd.row, .int .i64 nd.col, .int .i64 nd.top, .int .i64 nd.left, .int .i64 nd.bot, .int .i64 nd.right, .int .i64 nd.op, .string nd.name, .int .i64 nd.args], .int .i64 a] w fun e w' => e = .panicked (refC 8 a) ∧ Mut (fun b => tag b ≠ 0) w w' := by
 obtain ⟨p, cap, hvn, _, _⟩ := h.n.slice
 rw [hl] at hvn
 subst hvn
 exact (add_n w R tb (.slice p 1024 cap) vo vr s.pl s.nm _ p cap nd a h.own).mono fun e w' ⟨h1, h2⟩ => ⟨h1, (Mut.refl _ _).below h2⟩
theorem open_ok {w : World} {R : Nat} {tb : Value} {s : St} {tag : Nat → Nat} {vn vo vr : Value} {br : List Bc} {rm : List Wt} {hi : Nat} (h : RX w R tb s tag vn vo vr br rm hi) (hl : s.op.length < 32) (bn : Tk) (hbn : bn.str.size ≤ 281474976710656) (a : Int) :
  Calls Tryz.prog 93 #[.pointer (some ⟨R, 0, none⟩), .int .i64 a, .agg #[.int .i64 bn.kind, .int .i64 bn.at', .int .i64 bn.num, .string bn.str, .int .i64 bn.c0, .int .i64 bn.c1, .int .i64 bn.r0, .int .i64 bn.r1, .int .i64 bn.r2, .int .i64 bn.r3, .int .i64 bn.code]] w fun e w' => (∃ v, e = .returned v) ∧ ∃ x', Own w' R (rdC tb s.pl s.nm vn x' vr ((s.ct : Nat) : Int)) ∧ ∃ tag' br', RX w' R tb ⟨s.pl, s.nm, s.ns, ⟨bn, [], s.cur⟩ :: s.op, []⟩ tag' vn x' vr br' rm hi ∧ Gr tag tag' w w' := by
 have hbl := h.bl.len
 refine (open_y w R tb vn vo vr s.pl s.nm s.ct br.reverse bn a h.own h.b (by simp; omega) h.oeR).mono ?_
 rintro e w' ⟨hv, vo', h1, h2, h3, h4⟩
 have hk : ∀ g, g < w.heap.size → tag g ≠ 1 → tag g ≠ 3 → w'.heap[g]? = w.heap[g]? := fun g hg a1 a2 => h3.block g hg (fun hh => by rcases hh with e | e; exact a1 (by rw [e]; exact h.tR); exact a2 (h.to' g e))
 have hct : St.ct ⟨s.pl, s.nm, s.ns, ⟨bn, [], s.cur⟩ :: s.op, []⟩ = s.ct := by simp [St.ct, aheadOf]
 have hall : St.all ⟨s.pl, s.nm, s.ns, ⟨bn, [], s.cur⟩ :: s.op, []⟩ = s.all := by simp [St.all, outs]
 refine ⟨hv, vo', h1, retag tag w.heap.size vo' 3, ⟨bn, .slice none 0 0, ((s.ct : Nat) : Int)⟩ :: br, ⟨by rw [hct]; exact h1, h.n.of_block fun g hg => hk g (h.n.lt g hg).2 (by rw [h.tn g hg]; decide) (by rw [h.tn g hg]; decide), by rw [List.reverse_cons]; exact h2, h.r.of_block fun g hg => hk g (h.r.lt g hg).2 (by rw [h.tr g hg]; decide) (by rw [h.tr g hg]; decide),
  ⟨rfl, rfl, Rf.Row.nil _ _, fun g hg => (by cases hg), hbn, h.bl.turn fun g hg h5 _ => ⟨hk g hg zq17 zq17, retag_old hg⟩⟩, by rw [hall]; exact h.ring, by rw [retag_old h.own.lt]; exact h.tR, fun g hg => by rw [retag_old (h.n.lt g hg).2]; exact h.tn g hg, retag_new h4 h.to', fun g hg => by rw [retag_old (h.r.lt g hg).2]; exact h.tr g hg,
  retag_sup h.sup h3.size (fun g hg => (h2.lt g hg).2), ⟨h.fit.ns, by simp; omega, ?_⟩, h.nsz⟩, retag_grow, h3.mono fun b hb => by rcases hb with e | e; (rw [e, h.tR]; decide); (rw [h.to' b e]; decide)⟩
 intro l hl'
 rcases List.mem_cons.1 hl' with rfl | hl'
 ·simp
 ·exact h.fit.rl l hl'
theorem open_no {w : World} {R : Nat} {tb : Value} {s : St} {tag : Nat → Nat} {vn vo vr : Value} {br : List Bc} {rm : List Wt} {hi : Nat} (h : RX w R tb s tag vn vo vr br rm hi) (hl : s.op.length = 32) (bn : Tk) (a : Int) :
  Calls Tryz.prog 93 #[.pointer (some ⟨R, 0, none⟩), .int .i64 a, .agg #[.int .i64 bn.kind, .int .i64 bn.at', .int .i64 bn.num, .string bn.str, .int .i64 bn.c0, .int .i64 bn.c1, .int .i64 bn.r0, .int .i64 bn.r1, .int .i64 bn.r2, .int .i64 bn.r3, .int .i64 bn.code]] w fun e w' => e = .panicked (refC 7 a) ∧ Mut (fun b => tag b ≠ 0) w w' := by
 obtain ⟨p, cap, hvo, _, _⟩ := h.b.slice
 rw [List.length_reverse, h.bl.len, hl] at hvo
 subst hvo
 exact (open_n w R tb vn (.slice p 32 cap) vr s.pl s.nm s.ct p cap bn a h.own).mono fun e w' ⟨h1, h2⟩ => ⟨h1, (Mut.refl _ _).below h2⟩
theorem push_ok {w : World} {R : Nat} {tb : Value} {s : St} {tag : Nat → Nat} {vn vo vr : Value} {br : List Bc} {rm : List Wt} {hi : Nat} (h : RX w R tb s tag vn vo vr br rm hi) (hc : s.ct < 1000000000) (op a : Int) :
  Calls Tryz.prog 94 #[.pointer (some ⟨R, 15, none⟩), .agg #[.int .i64 op, .int .i64 a]] w fun e w' => (∃ v, e = .returned v) ∧ ∃ x', Own w' R (rdC tb s.pl s.nm vn vo x' (((s.ct : Nat) : Int) + 1)) ∧ ∃ tag' rm' hi', RX w' R tb (pushS s op a) tag' vn vo x' br rm' hi' ∧ Gr tag tag' w w' := by
 have hlen := s.all_len
 have hct : (St.ct (pushS s op a) : Int) = (s.ct : Int) + 1 := by simp [St.ct, pushS]; omega
 have hall : (pushS s op a).all = ⟨op, a⟩ :: s.all := rfl
 have hcl := h.ring.len
 have hch := h.ring.up
 have hfit : Fit (pushS s op a) := ⟨h.fit.ns, h.fit.op, h.fit.rl⟩
 rw [hlen] at hch
 by_cases hk : s.ct % 1024 = rm.length
 ·refine (push_a w R tb vn vo vr s.pl s.nm s.ct rm ⟨op, a⟩ h.own h.r hk hc h.reR).mono ?_
  rintro e w' ⟨hv, vr', h1, h2, h3, h4⟩
  have hk' : ∀ g, g < w.heap.size → tag g ≠ 1 → tag g ≠ 4 → w'.heap[g]? = w.heap[g]? := fun g hg a1 a2 => h3.block g hg (fun hh => by rcases hh with e | e; exact a1 (by rw [e]; exact h.tR); exact a2 (h.tr g e))
  exact ⟨hv, vr', h1, retag tag w.heap.size vr' 4, rm ++ [⟨op, a⟩], _, ⟨by rw [hct]; exact h1, h.n.of_block fun g hg => hk' g (h.n.lt g hg).2 (by rw [h.tn g hg]; decide) (by rw [h.tn g hg]; decide), h.b.of_block fun g hg => hk' g (h.b.lt g hg).2 (by rw [h.to' g hg]; decide) (by rw [h.to' g hg]; decide), h2,
   h.bl.turn fun g hg h5 _ => ⟨hk' g hg zq17 zq17, retag_old hg⟩, by rw [hall]; exact h.ring.app h.fit.ns (by rw [hlen]; exact hk) _, by rw [retag_old h.own.lt]; exact h.tR, fun g hg => by rw [retag_old (h.n.lt g hg).2]; exact h.tn g hg, fun g hg => by rw [retag_old (h.b.lt g hg).2]; exact h.to' g hg, retag_new h4 h.tr,
   retag_sup h.sup h3.size (fun g hg => (h2.lt g hg).2), hfit, h.nsz⟩, retag_grow, h3.mono fun b hb => by rcases hb with e | e; (rw [e, h.tR]; decide); (rw [h.tr b e]; decide)⟩
 ·have hlt : s.ct % 1024 < rm.length := by omega
  rcases Rf.Row.two Wt_size h.r with ⟨_, e⟩ | ⟨g, cap, e, _, hg2, _⟩
  ·rw [e] at hlt; simp at hlt
  ·subst e
   refine (push_s w R tb vn vo (.slice none 0 0) s.pl s.nm s.ct g rm.length cap rm ⟨op, a⟩ _ h.own h.r rfl rfl hlt hc (h.reR g rfl)).mono ?_
   rintro e w' ⟨hv, h1, h2, h3⟩
   have hk' : ∀ b, b < w.heap.size → tag b ≠ 1 → tag b ≠ 4 → w'.heap[b]? = w.heap[b]? := fun b hb a1 a2 => h3.block b hb (fun hh => by rcases hh with e | e; exact a1 (by rw [e]; exact h.tR); exact a2 (by rw [e]; exact h.tr g rfl))
   exact ⟨hv, _, h1, tag, _, _, ⟨by rw [hct]; exact h1, h.n.of_block fun g hg => hk' g (h.n.lt g hg).2 (by rw [h.tn g hg]; decide) (by rw [h.tn g hg]; decide), h.b.of_block fun g hg => hk' g (h.b.lt g hg).2 (by rw [h.to' g hg]; decide) (by rw [h.to' g hg]; decide), h2,
    h.bl.turn fun g hg h5 _ => ⟨hk' g hg zq17 zq17, rfl⟩, by rw [hall, ← hlen]; exact h.ring.put (by rw [hlen]; exact hlt) _, h.tR, h.tn, h.to', h.tr,
    fun b hb => Nat.lt_of_lt_of_le (h.sup b hb) h3.size, hfit, h.nsz⟩, fun _ hb => .inl hb, h3.mono fun b hb => by rcases hb with e | e; (rw [e, h.tR]; decide); (rw [e, h.tr g rfl]; decide)⟩
end Go.Proofs.YtcmjhjnpcogmgaaGreatDoor
