/- The reader's takeThing, takeOpening, takeEnding, takeWorking and take, told by the model's -/
import Derived.Test.YtcmjhjnpcogmgaaGreatDoorUAuto
import Derived.Test.YtcmjhjnpcogmgaaGreatDoorUZSZC
import Derived.Test.YtcmjhjnpcogmgaaGreatDoorUPD6
set_option linter.all false
set_option maxRecDepth 100000
set_option maxHeartbeats 4000000
namespace Go.Proofs.YtcmjhjnpcogmgaaGreatDoor
open Go.Shelf Go.RowKit
theorem SP.of_ok {R : Nat} {tb : Value} {tag : Nat → Nat} {w w1 w' : World} {s : St} {e : Ending} (hb : Below w.heap.size w w1) (h : SP R tb tag w1 (.ok s) e w') : (∃ v, e = .returned v) ∧ ∃ tag' vn vo vr br rm hi, RX w' R tb s tag' vn vo vr br rm hi ∧ Gr tag tag' w w' := SP.below hb h
theorem SP.of_no {R : Nat} {tb : Value} {tag : Nat → Nat} {w w1 w' : World} {c : Int × Int} {e : Ending} (hb : Below w.heap.size w w1) (h : SP R tb tag w1 (.error c) e w') : e = .panicked (refC c.1 c.2) ∧ Mut (fun b => tag b ≠ 0) w w' := SP.below hb h
theorem name_any {w : World} {R : Nat} {s : St} {tag : Nat → Nat} {vn vo vr : Value} {br : List Bc} {rm : List Wt} {hi : Nat} {fp : Option Addr} {fn fc : Nat} {fl : List Fu} (h : RX w R (.iface 29 (.slice fp fn fc)) s tag vn vo vr br rm hi) (hE : En w tag fp fn fc fl) (t : Tk) (hsz : t.str.size ≤ 281474976710656) : Calls Tryz.prog 92 #[.pointer (some ⟨R, 0, none⟩), .agg #[.int .i64 t.kind, .int .i64 t.at', .int .i64 t.num, .string t.str, .int .i64 t.c0, .int .i64 t.c1, .int .i64 t.r0, .int .i64 t.r1, .int .i64 t.r2, .int .i64 t.r3, .int .i64 t.code]] w (SP R (.iface 29 (.slice fp fn fc)) tag w (namS (knownB fl) s t)) := by
 cases hm : mayNm t.str with
 | false =>
  have e : namS (knownB fl) s t = .error (8, t.at') := by unfold namS; rw [hm]; simp
  rw [e]
  exact (name_m w R (.iface 29 (.slice fp fn fc)) vn vo vr s.pl s.nm s.ct t h.own hm).mono fun e w' ⟨h1, h2⟩ => ⟨h1, (Mut.refl _ _).below h2⟩
 | true =>
  cases hk : knownB fl t.str with
  | false =>
   have e : namS (knownB fl) s t = .error (8, t.at') := by unfold namS; rw [hk]; simp
   rw [e]
   exact (name_n w R (.iface 29 (.slice fp fn fc)) vn vo vr s.pl s.nm s.ct fp fn fc t h.own hm (fun w1 hb => by rw [← hk]; exact knownF_any w1 _ fl t.str (hE.fv.keep hb) hE.len)).mono fun e w' ⟨h1, h2⟩ => ⟨h1, (Mut.refl _ _).below h2⟩
  | true =>
   have e : namS (knownB fl) s t = .ok ⟨3, t, s.ns, s.op, s.cur⟩ := by unfold namS; rw [hm, hk]; simp
   rw [e]
   refine (name_y w R (.iface 29 (.slice fp fn fc)) vn vo vr s.pl s.nm s.ct fp fn fc t h.own hm (fun w1 hb => by rw [← hk]; exact knownF_any w1 _ fl t.str (hE.fv.keep hb) hE.len)).mono ?_
   rintro e w' ⟨hv, h1, h2⟩
   have hk2 : ∀ g, g < w.heap.size → tag g ≠ 1 → w'.heap[g]? = w.heap[g]? := fun g hg a1 => h2.block g hg (fun e => a1 (by rw [e]; exact h.tR))
   exact ⟨hv, tag, vn, vo, vr, br, rm, hi, ⟨h1, h.n.of_block fun g hg => hk2 g (h.n.lt g hg).2 (by rw [h.tn g hg]; decide), h.b.of_block fun g hg => hk2 g (h.b.lt g hg).2 (by rw [h.to' g hg]; decide), h.r.of_block fun g hg => hk2 g (h.r.lt g hg).2 (by rw [h.tr g hg]; decide), h.bl.turn fun g hg h5 _ => ⟨hk2 g hg zq17, rfl⟩, h.ring, h.tR, h.tn, h.to', h.tr, fun b hb => Nat.lt_of_lt_of_le (h.sup b hb) h2.size, ⟨h.fit.ns, h.fit.op, h.fit.rl⟩, hsz⟩,
    fun _ hb => .inl hb, h2.mono fun b hb => by show tag b ≠ 0; rw [hb, h.tR]; decide⟩
theorem thing_any {w : World} {R : Nat} {s : St} {tag : Nat → Nat} {vn vo vr : Value} {br : List Bc} {rm : List Wt} {hi : Nat} {fp : Option Addr} {fn fc : Nat} {fl : List Fu} (h : RX w R (.iface 29 (.slice fp fn fc)) s tag vn vo vr br rm hi) (hE : En w tag fp fn fc fl) (hc : s.ct < 1000000000) (t : Tk) (hsz : t.str.size ≤ 281474976710656) : Calls Tryz.prog 56 #[.pointer (some ⟨R, 0, none⟩), .agg #[.int .i64 t.kind, .int .i64 t.at', .int .i64 t.num, .string t.str, .int .i64 t.c0, .int .i64 t.c1, .int .i64 t.r0, .int .i64 t.r1, .int .i64 t.r2, .int .i64 t.r3, .int .i64 t.code]] w (SP R (.iface 29 (.slice fp fn fc)) tag w (thingS (knownB fl) s t)) := by
 cases hl : leafN t with
 | some n =>
  by_cases hf : s.ns.length = 1024
  ·have e : thingS (knownB fl) s t = .error (8, t.at') := by unfold thingS addS; rw [hl]; simp [hf, thenS]
   rw [e]
   exact thing_ap w R (.iface 29 (.slice fp fn fc)) vn vo vr s.pl s.nm s.ct t hsz h.own (refC 8 t.at') (fun w' => Mut (fun b => tag b ≠ 0) w w') n hl (fun w1 hb => (add_no (h.keep hb) hf n t.at').mono fun e w' ⟨h1, h2⟩ => ⟨h1, (Gr.below hb).then_mut h2⟩)
  ·have e : thingS (knownB fl) s t = .ok ⟨4, s.nm, s.ns ++ [n], s.op, s.cur⟩ := by unfold thingS addS; rw [hl]; simp [hf, thenS, St.to]
   rw [e]
   refine (thing_ar w R (.iface 29 (.slice fp fn fc)) vn vo vr s.pl s.nm s.ct t hsz h.own (fun x' w' => ∃ tag', RX w' R (.iface 29 (.slice fp fn fc)) ⟨s.pl, s.nm, s.ns ++ [n], s.op, s.cur⟩ tag' x' vo vr br rm hi ∧ Gr tag tag' w w') n hl (fun w1 hb => (add_ok (h.keep hb) (by have := h.fit.ns; omega) n t.at').mono fun e w' ⟨h1, x', h2, tag', h3, h4⟩ => ⟨h1, x', h2, tag', h3, (Gr.below hb).trans h4⟩)).mono ?_
   rintro e w' ⟨hv, x', w5, ⟨tag', q1, q2⟩, rfl, _⟩
   obtain ⟨z1, z2⟩ := q1.set_pl 4
   exact ⟨hv, tag', _, _, _, _, _, _, z1, q2.trans z2⟩
 | none =>
  by_cases hk : t.kind = 3
  ·have hk' : (t.kind == 3) = true := by simpa using hk
   have e : thingS (knownB fl) s t = namS (knownB fl) s t := by unfold thingS; rw [hl]; simp [hk]
   rw [e]
   cases hn : namS (knownB fl) s t with
   | error c => exact thing_wp w R (.iface 29 (.slice fp fn fc)) vn vo vr s.pl s.nm s.ct t hsz h.own (refC c.1 c.2) (fun w' => Mut (fun b => tag b ≠ 0) w w') hl hk' (fun w1 hb => by have := name_any (h.keep hb) (hE.keep hb) t hsz; rw [hn] at this; exact this.mono fun e w' hp => SP.of_no hb hp)
   | ok u => exact thing_wr w R (.iface 29 (.slice fp fn fc)) vn vo vr s.pl s.nm s.ct t hsz h.own (fun w' => ∃ tag' vn vo vr br rm hi, RX w' R (.iface 29 (.slice fp fn fc)) u tag' vn vo vr br rm hi ∧ Gr tag tag' w w') hl hk' (fun w1 hb => by have := name_any (h.keep hb) (hE.keep hb) t hsz; rw [hn] at this; exact this.mono fun e w' hp => SP.of_ok hb hp)
  ·have hk' : (t.kind == 3) = false := by simpa using hk
   cases h1 : sgB t ⟨#[40]⟩ with
   | true =>
    by_cases hf : s.op.length = 32
    ·have e : thingS (knownB fl) s t = .error (7, t.at') := by unfold thingS openS; rw [hl]; simp [hf, thenS, hk, h1]
     rw [e]
     exact thing_bp w R (.iface 29 (.slice fp fn fc)) vn vo vr s.pl s.nm s.ct t hsz h.own (refC 7 t.at') (fun w' => Mut (fun b => tag b ≠ 0) w w') hl hk' h1 (fun w1 hb => (open_no (h.keep hb) hf (tk0 0) t.at').mono fun e w' ⟨h1, h2⟩ => ⟨h1, (Gr.below hb).then_mut h2⟩)
    ·have e : thingS (knownB fl) s t = .ok ⟨0, s.nm, s.ns, ⟨tk0 0, [], s.cur⟩ :: s.op, []⟩ := by unfold thingS openS; rw [hl]; simp [hf, thenS, hk, h1, St.to]
     rw [e]
     refine (thing_br w R (.iface 29 (.slice fp fn fc)) vn vo vr s.pl s.nm s.ct t hsz h.own (fun x' w' => ∃ tag' br', RX w' R (.iface 29 (.slice fp fn fc)) ⟨s.pl, s.nm, s.ns, ⟨tk0 0, [], s.cur⟩ :: s.op, []⟩ tag' vn x' vr br' rm hi ∧ Gr tag tag' w w') hl hk' h1 (fun w1 hb => (open_ok (h.keep hb) (by have := h.fit.op; omega) (tk0 0) zq16 t.at').mono fun e w' ⟨h1, x', h2, tag', br', h3, h4⟩ => ⟨h1, x', h2, tag', br', h3, (Gr.below hb).trans h4⟩)).mono ?_
     rintro e w' ⟨hv, x', w5, ⟨tag', br', q1, q2⟩, rfl, _⟩
     obtain ⟨z1, z2⟩ := q1.set_pl 0
     exact ⟨hv, tag', _, _, _, _, _, _, z1, q2.trans z2⟩
   | false =>
    cases h2 : sgB t ⟨#[45]⟩ with
    | false =>
     have e : thingS (knownB fl) s t = .error (8, t.at') := by unfold thingS; rw [hl]; simp [hk, h1, h2]
     rw [e]
     exact (thing_n w R (.iface 29 (.slice fp fn fc)) vn vo vr s.pl s.nm s.ct t hsz h.own hl hk' h1 h2).mono fun e w' ⟨h1, h2⟩ => ⟨h1, (Mut.refl _ _).below h2⟩
    | true =>
     have e : thingS (knownB fl) s t = .ok ((pushS s 1 t.at').to 0) := by unfold thingS; rw [hl]; simp [hk, h1, h2]
     rw [e]
     refine (thing_m w R (.iface 29 (.slice fp fn fc)) vn vo vr s.pl s.nm s.ct t hsz h.own (fun x' w' => ∃ tag' rm' hi', RX w' R (.iface 29 (.slice fp fn fc)) (pushS s 1 t.at') tag' vn vo x' br rm' hi' ∧ Gr tag tag' w w') hl hk' h1 h2 (fun w1 hb => (push_ok (h.keep hb) hc 1 t.at').mono fun e w' ⟨h1, x', h2, tag', rm', hi', h3, h4⟩ => ⟨h1, x', h2, tag', rm', hi', h3, (Gr.below hb).trans h4⟩)).mono ?_
     rintro e w' ⟨hv, x', w5, ⟨tag', rm', hi', q1, q2⟩, rfl, _⟩
     obtain ⟨z1, z2⟩ := q1.set_pl 0
     exact ⟨hv, tag', _, _, _, _, _, _, z1, q2.trans z2⟩
theorem opening_any {w : World} {R : Nat} {s : St} {tag : Nat → Nat} {vn vo vr : Value} {br : List Bc} {rm : List Wt} {hi : Nat} {fp : Option Addr} {fn fc : Nat} (h : RX w R (.iface 29 (.slice fp fn fc)) s tag vn vo vr br rm hi) (t : Tk) : Calls Tryz.prog 57 #[.pointer (some ⟨R, 0, none⟩), .agg #[.int .i64 t.kind, .int .i64 t.at', .int .i64 t.num, .string t.str, .int .i64 t.c0, .int .i64 t.c1, .int .i64 t.r0, .int .i64 t.r1, .int .i64 t.r2, .int .i64 t.r3, .int .i64 t.code]] w (SP R (.iface 29 (.slice fp fn fc)) tag w (openingS s t)) := by
 cases h1 : sgB t ⟨#[40]⟩ with
 | false =>
  have e : openingS s t = .error (8, t.at') := by unfold openingS; simp [h1]
  rw [e]
  exact (opening_n w R (.iface 29 (.slice fp fn fc)) vn vo vr s.pl s.nm s.ct t h.own h1).mono fun e w' ⟨h1, h2⟩ => ⟨h1, (Mut.refl _ _).below h2⟩
 | true =>
  by_cases hf : s.op.length = 32
  ·have e : openingS s t = .error (7, t.at') := by unfold openingS openS; simp [hf, thenS, h1]
   rw [e]
   exact opening_p w R (.iface 29 (.slice fp fn fc)) vn vo vr s.pl s.nm s.ct t h.own (refC 7 t.at') (fun w' => Mut (fun b => tag b ≠ 0) w w') h1 (fun w1 hb => (open_no (h.keep hb) hf s.nm t.at').mono fun e w' ⟨h1, h2⟩ => ⟨h1, (Gr.below hb).then_mut h2⟩)
  ·have e : openingS s t = .ok ⟨2, s.nm, s.ns, ⟨s.nm, [], s.cur⟩ :: s.op, []⟩ := by unfold openingS openS; simp [hf, thenS, h1, St.to]
   rw [e]
   refine (opening_r w R (.iface 29 (.slice fp fn fc)) vn vo vr s.pl s.nm s.ct t h.own (fun x' w' => ∃ tag' br', RX w' R (.iface 29 (.slice fp fn fc)) ⟨s.pl, s.nm, s.ns, ⟨s.nm, [], s.cur⟩ :: s.op, []⟩ tag' vn x' vr br' rm hi ∧ Gr tag tag' w w') h1 (fun w1 hb => (open_ok (h.keep hb) (by have := h.fit.op; omega) s.nm h.nsz t.at').mono fun e w' ⟨h1, x', h2, tag', br', h3, h4⟩ => ⟨h1, x', h2, tag', br', h3, (Gr.below hb).trans h4⟩)).mono ?_
   rintro e w' ⟨hv, x', w5, ⟨tag', br', q1, q2⟩, rfl, _⟩
   obtain ⟨z1, z2⟩ := q1.set_pl 2
   exact ⟨hv, tag', _, _, _, _, _, _, z1, q2.trans z2⟩
theorem ending_any {w : World} {R : Nat} {s : St} {tag : Nat → Nat} {vn vo vr : Value} {br : List Bc} {rm : List Wt} {hi : Nat} {fp : Option Addr} {fn fc : Nat} {fl : List Fu} (h : RX w R (.iface 29 (.slice fp fn fc)) s tag vn vo vr br rm hi) (hE : En w tag fp fn fc fl) (hp : s.pl = 2 ∨ s.pl = 4 ∨ s.pl = 5) (t : Tk) : Calls Tryz.prog 59 #[.pointer (some ⟨R, 0, none⟩), .agg #[.int .i64 t.kind, .int .i64 t.at', .int .i64 t.num, .string t.str, .int .i64 t.c0, .int .i64 t.c1, .int .i64 t.r0, .int .i64 t.r1, .int .i64 t.r2, .int .i64 t.r3, .int .i64 t.code]] w (SP R (.iface 29 (.slice fp fn fc)) tag w (endingS (takesB fl) s t)) := by
 cases h1 : sgB t ⟨#[44]⟩ with
 | true =>
  have e : endingS (takesB fl) s t = nextS s t.at' := by unfold endingS; simp [h1]
  rw [e]
  cases hn : nextS s t.at' with
  | error c => exact ending_cp w R (.iface 29 (.slice fp fn fc)) vn vo vr s.pl s.nm s.ct t h.own (refC c.1 c.2) (fun w' => Mut (fun b => tag b ≠ 0) w w') h1 (fun w1 hb => by have := next_any (h.keep hb) t.at'; rw [hn] at this; exact this.mono fun e w' hp => SP.of_no hb hp)
  | ok u => exact ending_cr w R (.iface 29 (.slice fp fn fc)) vn vo vr s.pl s.nm s.ct t h.own (fun w' => ∃ tag' vn vo vr br rm hi, RX w' R (.iface 29 (.slice fp fn fc)) u tag' vn vo vr br rm hi ∧ Gr tag tag' w w') h1 (fun w1 hb => by have := next_any (h.keep hb) t.at'; rw [hn] at this; exact this.mono fun e w' hp => SP.of_ok hb hp)
 | false =>
  cases h2 : sgB t ⟨#[41]⟩ with
  | true =>
   have e : endingS (takesB fl) s t = closeS (takesB fl) s t.at' := by unfold endingS; simp [h1, h2]
   rw [e]
   cases hn : closeS (takesB fl) s t.at' with
   | error c => exact ending_bp w R (.iface 29 (.slice fp fn fc)) vn vo vr s.pl s.nm s.ct t h.own (refC c.1 c.2) (fun w' => Mut (fun b => tag b ≠ 0) w w') h1 h2 (fun w1 hb => by have := close_any (h.keep hb) (hE.keep hb) hp t.at'; rw [hn] at this; exact this.mono fun e w' hp => SP.of_no hb hp)
   | ok u => exact ending_br w R (.iface 29 (.slice fp fn fc)) vn vo vr s.pl s.nm s.ct t h.own (fun w' => ∃ tag' vn vo vr br rm hi, RX w' R (.iface 29 (.slice fp fn fc)) u tag' vn vo vr br rm hi ∧ Gr tag tag' w w') h1 h2 (fun w1 hb => by have := close_any (h.keep hb) (hE.keep hb) hp t.at'; rw [hn] at this; exact this.mono fun e w' hp => SP.of_ok hb hp)
  | false =>
   by_cases hk : t.kind = 0
   ·have hk' : (t.kind != 0) = false := by simp [hk]
    cases ho : s.op with
    | nil =>
     have e : endingS (takesB fl) s t = .ok s := by unfold endingS; simp [h1, h2, hk, ho]
     rw [e]
     obtain ⟨p, cap, evo⟩ := h.noBr ho
     exact (ending_y w R (.iface 29 (.slice fp fn fc)) vn vo vr s.pl s.nm s.ct t h.own p cap evo h1 h2 hk').mono fun e w' ⟨hv, hb⟩ => ⟨hv, tag, vn, vo, vr, br, rm, hi, h.keep hb, Gr.below hb⟩
    | cons l r =>
     have e : endingS (takesB fl) s t = .error (8, t.at') := by unfold endingS; simp [h1, h2, hk, ho]
     rw [e]
     obtain ⟨go, capo, b, bs, evo, _⟩ := h.inner ho
     exact (ending_o w R (.iface 29 (.slice fp fn fc)) vn vo vr s.pl s.nm s.ct t h.own (some ⟨go, 0, none⟩) r.length capo evo h1 h2 hk').mono fun e w' ⟨h1, h2⟩ => ⟨h1, (Mut.refl _ _).below h2⟩
   ·have hk' : (t.kind != 0) = true := by simp [hk]
    have e : endingS (takesB fl) s t = .error (8, t.at') := by unfold endingS; simp [h1, h2, hk]
    rw [e]
    exact (ending_k w R (.iface 29 (.slice fp fn fc)) vn vo vr s.pl s.nm s.ct t h.own h1 h2 hk').mono fun e w' ⟨h1, h2⟩ => ⟨h1, (Mut.refl _ _).below h2⟩
theorem workS_pl {s u : St} {lev : Int} (h : workS s lev = .ok u) : u.pl = s.pl ∧ u.nm = s.nm ∧ u.op = s.op ∧ u.ct ≤ s.ct := by
 have hl : ∀ (c : List Wt) (ns : List Rf.Nd) (c' : List Wt) (n' : List Rf.Nd), wkS lev c ns = .ok (c', n') → c'.length ≤ c.length := by
  intro c
  induction c with
  | nil => intro ns c' n' h; simp [wkS] at h; simp [← h.1]
  | cons x r ih =>
   intro ns c' n' h
   simp only [wkS] at h
   split at h
   ·split at h
    ·cases h
    ·have := ih _ _ _ h; simp; omega
   ·cases h; simp
 unfold workS at h
 cases hw : wkS lev s.cur s.ns with
 | error a => rw [hw] at h; cases h
 | ok cn =>
  rw [hw] at h
  cases h
  refine ⟨rfl, rfl, rfl, ?_⟩
  have := hl _ _ _ _ hw
  exact Nat.add_le_add_right this _
theorem working_any {w : World} {R : Nat} {s : St} {tag : Nat → Nat} {vn vo vr : Value} {br : List Bc} {rm : List Wt} {hi : Nat} {fp : Option Addr} {fn fc : Nat} {fl : List Fu} (h : RX w R (.iface 29 (.slice fp fn fc)) s tag vn vo vr br rm hi) (hE : En w tag fp fn fc fl) (hc : s.ct < 1000000000) (h0 : s.ns ≠ []) (hp : s.pl = 4) (t : Tk) : Calls Tryz.prog 58 #[.pointer (some ⟨R, 0, none⟩), .agg #[.int .i64 t.kind, .int .i64 t.at', .int .i64 t.num, .string t.str, .int .i64 t.c0, .int .i64 t.c1, .int .i64 t.r0, .int .i64 t.r1, .int .i64 t.r2, .int .i64 t.r3, .int .i64 t.code]] w (SP R (.iface 29 (.slice fp fn fc)) tag w (workingS (takesB fl) s t)) := by
 cases h1 : sgB t ⟨#[37]⟩ with
 | true =>
  have e : workingS (takesB fl) s t = addS s (opNd 2) t.at' := by unfold workingS; simp [h1]
  rw [e]
  by_cases hf : s.ns.length = 1024
  ·have e : addS s (opNd 2) t.at' = .error (8, t.at') := by unfold addS; simp [hf]
   rw [e]
   exact pct_p w R (.iface 29 (.slice fp fn fc)) vn vo vr s.pl s.nm s.ct t h.own (refC 8 t.at') (fun w' => Mut (fun b => tag b ≠ 0) w w') h1 (fun w1 hb => (add_no (h.keep hb) hf (opNd 2) t.at').mono fun e w' ⟨h1, h2⟩ => ⟨h1, (Gr.below hb).then_mut h2⟩)
  ·have e : addS s (opNd 2) t.at' = .ok ⟨s.pl, s.nm, s.ns ++ [opNd 2], s.op, s.cur⟩ := by unfold addS; simp [hf]
   rw [e]
   exact pct_r w R (.iface 29 (.slice fp fn fc)) vn vo vr s.pl s.nm s.ct t h.own (fun w' => ∃ tag' vn vo vr br rm hi, RX w' R (.iface 29 (.slice fp fn fc)) ⟨s.pl, s.nm, s.ns ++ [opNd 2], s.op, s.cur⟩ tag' vn vo vr br rm hi ∧ Gr tag tag' w w') h1 (fun w1 hb => (add_ok (h.keep hb) (by have := h.fit.ns; omega) (opNd 2) t.at').mono fun e w' ⟨h1, x', h2, tag', h3, h4⟩ => ⟨h1, tag', _, _, _, _, _, _, h3, (Gr.below hb).trans h4⟩)
 | false =>
  have hSS : ∀ b, tag b ≠ 0 → b < w.heap.size := h.sup
  cases ho : oprI t with
  | none =>
   have e : workingS (takesB fl) s t = thenS (workS s 0) (fun u => endingS (takesB fl) u t) := by unfold workingS; simp [h1, ho]
   rw [e]
   cases hw : workS s 0 with
   | error c =>
    exact working_np w R (.iface 29 (.slice fp fn fc)) vn vo vr s.pl s.nm s.ct t h.own (refC c.1 c.2) (fun w' => Mut (fun b => tag b ≠ 0) w w') hE.sg h1 ho (fun w1 hb => by have := work_any (h.keep hb) hc h0 0; rw [hw] at this; exact this.mono fun e w' hp => SP.of_no hb hp)
   | ok u =>
    have hu := workS_pl hw
    have hWk : ∀ w1, Below w.heap.size w w1 → Calls Tryz.prog 97 #[.pointer (some ⟨R, 0, none⟩), .int .i64 0] w1 fun e w' => (∃ v, e = .returned v) ∧ (∃ tag' vn vo vr br rm hi, RX w' R (.iface 29 (.slice fp fn fc)) u tag' vn vo vr br rm hi ∧ Gr tag tag' w w') ∧ Mut (fun b => tag b ≠ 0) w1 w' := fun w1 hb => by
     have := work_any (h.keep hb) hc h0 0
     rw [hw] at this
     exact this.mono fun e w' hp => ⟨hp.1, (SP.of_ok hb hp).2, by obtain ⟨_, _, _, _, _, _, _, _, _, g⟩ := hp; exact g.mu⟩
    show Calls _ _ _ _ (SP R (.iface 29 (.slice fp fn fc)) tag w (endingS (takesB fl) u t))
    cases hn : endingS (takesB fl) u t with
    | error c =>
     refine working_ep w R (.iface 29 (.slice fp fn fc)) vn vo vr s.pl s.nm s.ct t h.own (refC c.1 c.2) (fun w' => Mut (fun b => tag b ≠ 0) w w') _ (fun b => tag b ≠ 0) hSS hE.sg h1 ho hWk ?_
     rintro w2 ⟨tag', vn', vo', vr', br', rm', hi', q1, q2⟩
     have := ending_any q1 (hE.gr q2) (by rw [hu.1]; exact .inr (.inl hp)) t
     rw [hn] at this
     exact this.mono fun e w' hp => ⟨hp.1, q2.then_mut hp.2⟩
    | ok v =>
     refine working_er w R (.iface 29 (.slice fp fn fc)) vn vo vr s.pl s.nm s.ct t h.own (fun w' => ∃ tag' vn vo vr br rm hi, RX w' R (.iface 29 (.slice fp fn fc)) v tag' vn vo vr br rm hi ∧ Gr tag tag' w w') _ (fun b => tag b ≠ 0) hSS hE.sg h1 ho hWk ?_
     rintro w2 ⟨tag', vn', vo', vr', br', rm', hi', q1, q2⟩
     have := ending_any q1 (hE.gr q2) (by rw [hu.1]; exact .inr (.inl hp)) t
     rw [hn] at this
     exact this.mono fun e w' hp => SP.gr q2 hp
  | some i =>
   have e : workingS (takesB fl) s t = thenS (workS s (Rf.levI (3 + (i : Int)))) (fun u => .ok ((pushS u (3 + (i : Int)) t.at').to 0)) := by unfold workingS; simp [h1, ho]
   rw [e]
   cases hw : workS s (Rf.levI (3 + (i : Int))) with
   | error c =>
    exact working_op w R (.iface 29 (.slice fp fn fc)) vn vo vr s.pl s.nm s.ct t h.own (refC c.1 c.2) (fun w' => Mut (fun b => tag b ≠ 0) w w') hE.sg h1 i ho (fun w1 hb => by have := work_any (h.keep hb) hc h0 (Rf.levI (3 + (i : Int))); rw [hw] at this; exact this.mono fun e w' hp => SP.of_no hb hp)
   | ok u =>
    have hu := workS_pl hw
    have hWk : ∀ w1, Below w.heap.size w w1 → Calls Tryz.prog 97 #[.pointer (some ⟨R, 0, none⟩), .int .i64 (Rf.levI (3 + (i : Int)))] w1 fun e w' => (∃ v, e = .returned v) ∧ (∃ tag' vn vo vr br rm hi, RX w' R (.iface 29 (.slice fp fn fc)) u tag' vn vo vr br rm hi ∧ Gr tag tag' w w') ∧ Mut (fun b => tag b ≠ 0) w1 w' := fun w1 hb => by
     have := work_any (h.keep hb) hc h0 (Rf.levI (3 + (i : Int)))
     rw [hw] at this
     exact this.mono fun e w' hp => ⟨hp.1, (SP.of_ok hb hp).2, by obtain ⟨_, _, _, _, _, _, _, _, _, g⟩ := hp; exact g.mu⟩
    show Calls _ _ _ _ (SP R (.iface 29 (.slice fp fn fc)) tag w (.ok ((pushS u (3 + (i : Int)) t.at').to 0)))
    refine (working_or w R (.iface 29 (.slice fp fn fc)) vn vo vr s.pl s.nm s.ct t h.own i (fun w' => ∃ tag' vn vo vr br rm hi, RX w' R (.iface 29 (.slice fp fn fc)) (pushS u (3 + (i : Int)) t.at') tag' vn vo vr br rm hi ∧ Gr tag tag' w w') _ (fun b => tag b ≠ 0) (fun _ => #[]) hSS hE.sg h1 ho hWk ?_).mono ?_
    ·rintro w2 w3 ⟨tag', vn', vo', vr', br', rm', hi', q1, q2⟩ hb3
     refine (push_ok (q1.keep hb3) zq17 (3 + (i : Int)) t.at').mono ?_
     rintro e w' ⟨hv, x', o1, tag2, rm2, hi2, r1, r2⟩
     exact ⟨hv, ⟨_, o1, by simp [rdC]⟩, tag2, _, _, _, _, _, _, r1, q2.trans ((Gr.below hb3).trans r2)⟩
    ·rintro e w' ⟨hv, w5, ⟨tag', vn', vo', vr', br', rm', hi', q1, q2⟩, rfl⟩
     obtain ⟨z1, z2⟩ := q1.set_pl 0
     exact ⟨hv, tag', _, _, _, _, _, _, z1, q2.trans z2⟩
end Go.Proofs.YtcmjhjnpcogmgaaGreatDoor
namespace Go.Proofs.YtcmjhjnpcogmgaaGreatDoor
open Go.Shelf Go.RowKit
theorem take_any {w : World} {R : Nat} {s : St} {tag : Nat → Nat} {vn vo vr : Value} {br : List Bc} {rm : List Wt} {hi : Nat} {fp : Option Addr} {fn fc : Nat} {fl : List Fu} (h : RX w R (.iface 29 (.slice fp fn fc)) s tag vn vo vr br rm hi) (hE : En w tag fp fn fc fl) (hc : s.ct < 1000000000) (hpre : Pre s) (t : Tk) (hsz : t.str.size ≤ 281474976710656) : Calls Tryz.prog 30 #[.pointer (some ⟨R, 0, none⟩), .agg #[.int .i64 t.kind, .int .i64 t.at', .int .i64 t.num, .string t.str, .int .i64 t.c0, .int .i64 t.c1, .int .i64 t.r0, .int .i64 t.r1, .int .i64 t.r2, .int .i64 t.r3, .int .i64 t.code]] w (SP R (.iface 29 (.slice fp fn fc)) tag w (stepS (knownB fl) (takesB fl) s t)) := by
 rcases hpre.pl with hp | hp | hp | hp | hp | hp
 ·have hown := h.own
  rw [hp] at hown
  have e : stepS (knownB fl) (takesB fl) s t = thingS (knownB fl) s t := by unfold stepS; simp [hp]
  rw [e]
  cases hn : thingS (knownB fl) s t with
  | error c => exact take_0tp w R (.iface 29 (.slice fp fn fc)) vn vo vr s.nm s.ct t hown (refC c.1 c.2) (fun w' => Mut (fun b => tag b ≠ 0) w w') (fun w1 hb => by have := thing_any (h.keep hb) (hE.keep hb) hc t hsz; rw [hn] at this; exact this.mono fun e w' hp => SP.of_no hb hp)
  | ok u => exact take_0tr w R (.iface 29 (.slice fp fn fc)) vn vo vr s.nm s.ct t hown (fun w' => ∃ tag' vn vo vr br rm hi, RX w' R (.iface 29 (.slice fp fn fc)) u tag' vn vo vr br rm hi ∧ Gr tag tag' w w') (fun w1 hb => by have := thing_any (h.keep hb) (hE.keep hb) hc t hsz; rw [hn] at this; exact this.mono fun e w' hp => SP.of_ok hb hp)
 ·have hown := h.own
  rw [hp] at hown
  by_cases hk : t.kind = 5
  ·have hk' : (t.kind == 5) = true := by simpa using hk
   by_cases hf : s.ns.length = 1024
   ·have e : stepS (knownB fl) (takesB fl) s t = .error (8, t.at') := by unfold stepS; simp [hp, hk, addS, hf, thenS]
    rw [e]
    exact take_1rp w R (.iface 29 (.slice fp fn fc)) vn vo vr s.nm s.ct t hown (refC 8 t.at') (fun w' => Mut (fun b => tag b ≠ 0) w w') hk' (fun w1 hb => (add_no (h.keep hb) hf (rectNd t) t.at').mono fun e w' ⟨h1, h2⟩ => ⟨h1, (Gr.below hb).then_mut h2⟩)
   ·have e : stepS (knownB fl) (takesB fl) s t = .ok ⟨5, s.nm, s.ns ++ [rectNd t], s.op, s.cur⟩ := by unfold stepS; simp [hp, hk, addS, hf, thenS, St.to]
    rw [e]
    refine (take_1rr w R (.iface 29 (.slice fp fn fc)) vn vo vr s.nm s.ct t hown (fun x' w' => ∃ tag', RX w' R (.iface 29 (.slice fp fn fc)) ⟨s.pl, s.nm, s.ns ++ [rectNd t], s.op, s.cur⟩ tag' x' vo vr br rm hi ∧ Gr tag tag' w w') hk' (fun w1 hb => (add_ok (h.keep hb) (by have := h.fit.ns; omega) (rectNd t) t.at').mono fun e w' ⟨h1, x', h2, tag', h3, h4⟩ => ⟨h1, x', by rw [← hp]; exact h2, tag', h3, (Gr.below hb).trans h4⟩)).mono ?_
    rintro e w' ⟨hv, x', w5, ⟨tag', q1, q2⟩, rfl, _⟩
    obtain ⟨z1, z2⟩ := q1.set_pl 5
    exact ⟨hv, tag', _, _, _, _, _, _, z1, q2.trans z2⟩
  ·have hk' : (t.kind == 5) = false := by simpa using hk
   have e : stepS (knownB fl) (takesB fl) s t = thingS (knownB fl) s t := by unfold stepS; simp [hp, hk]
   rw [e]
   cases hn : thingS (knownB fl) s t with
   | error c => exact take_1tp w R (.iface 29 (.slice fp fn fc)) vn vo vr s.nm s.ct t hown (refC c.1 c.2) (fun w' => Mut (fun b => tag b ≠ 0) w w') hk' (fun w1 hb => by have := thing_any (h.keep hb) (hE.keep hb) hc t hsz; rw [hn] at this; exact this.mono fun e w' hp => SP.of_no hb hp)
   | ok u => exact take_1tr w R (.iface 29 (.slice fp fn fc)) vn vo vr s.nm s.ct t hown (fun w' => ∃ tag' vn vo vr br rm hi, RX w' R (.iface 29 (.slice fp fn fc)) u tag' vn vo vr br rm hi ∧ Gr tag tag' w w') hk' (fun w1 hb => by have := thing_any (h.keep hb) (hE.keep hb) hc t hsz; rw [hn] at this; exact this.mono fun e w' hp => SP.of_ok hb hp)
 ·have hown := h.own
  rw [hp] at hown
  cases h1 : sgB t ⟨#[41]⟩ with
  | true =>
   have e : stepS (knownB fl) (takesB fl) s t = closeS (takesB fl) s t.at' := by unfold stepS; simp [hp, h1]
   rw [e]
   cases hn : closeS (takesB fl) s t.at' with
   | error c => exact take_cp w R (.iface 29 (.slice fp fn fc)) vn vo vr s.nm s.ct t hown (refC c.1 c.2) (fun w' => Mut (fun b => tag b ≠ 0) w w') h1 (fun w1 hb => by have := close_any (h.keep hb) (hE.keep hb) (.inl hp) t.at'; rw [hn] at this; exact this.mono fun e w' hp => SP.of_no hb hp)
   | ok u => exact take_cr w R (.iface 29 (.slice fp fn fc)) vn vo vr s.nm s.ct t hown (fun w' => ∃ tag' vn vo vr br rm hi, RX w' R (.iface 29 (.slice fp fn fc)) u tag' vn vo vr br rm hi ∧ Gr tag tag' w w') h1 (fun w1 hb => by have := close_any (h.keep hb) (hE.keep hb) (.inl hp) t.at'; rw [hn] at this; exact this.mono fun e w' hp => SP.of_ok hb hp)
  | false =>
  by_cases hk : t.kind = 5
  ·have hk' : (t.kind == 5) = true := by simpa using hk
   by_cases hf : s.ns.length = 1024
   ·have e : stepS (knownB fl) (takesB fl) s t = .error (8, t.at') := by unfold stepS; simp [hp, h1, hk, addS, hf, thenS]
    rw [e]
    exact take_2rp w R (.iface 29 (.slice fp fn fc)) vn vo vr s.nm s.ct t hown (refC 8 t.at') (fun w' => Mut (fun b => tag b ≠ 0) w w') h1 hk' (fun w1 hb => (add_no (h.keep hb) hf (rectNd t) t.at').mono fun e w' ⟨h1, h2⟩ => ⟨h1, (Gr.below hb).then_mut h2⟩)
   ·have e : stepS (knownB fl) (takesB fl) s t = .ok ⟨5, s.nm, s.ns ++ [rectNd t], s.op, s.cur⟩ := by unfold stepS; simp [hp, h1, hk, addS, hf, thenS, St.to]
    rw [e]
    refine (take_2rr w R (.iface 29 (.slice fp fn fc)) vn vo vr s.nm s.ct t hown (fun x' w' => ∃ tag', RX w' R (.iface 29 (.slice fp fn fc)) ⟨s.pl, s.nm, s.ns ++ [rectNd t], s.op, s.cur⟩ tag' x' vo vr br rm hi ∧ Gr tag tag' w w') h1 hk' (fun w1 hb => (add_ok (h.keep hb) (by have := h.fit.ns; omega) (rectNd t) t.at').mono fun e w' ⟨h1, x', h2, tag', h3, h4⟩ => ⟨h1, x', by rw [← hp]; exact h2, tag', h3, (Gr.below hb).trans h4⟩)).mono ?_
    rintro e w' ⟨hv, x', w5, ⟨tag', q1, q2⟩, rfl, _⟩
    obtain ⟨z1, z2⟩ := q1.set_pl 5
    exact ⟨hv, tag', _, _, _, _, _, _, z1, q2.trans z2⟩
  ·have hk' : (t.kind == 5) = false := by simpa using hk
   have e : stepS (knownB fl) (takesB fl) s t = thingS (knownB fl) s t := by unfold stepS; simp [hp, hk, h1]
   rw [e]
   cases hn : thingS (knownB fl) s t with
   | error c => exact take_2tp w R (.iface 29 (.slice fp fn fc)) vn vo vr s.nm s.ct t hown (refC c.1 c.2) (fun w' => Mut (fun b => tag b ≠ 0) w w') h1 hk' (fun w1 hb => by have := thing_any (h.keep hb) (hE.keep hb) hc t hsz; rw [hn] at this; exact this.mono fun e w' hp => SP.of_no hb hp)
   | ok u => exact take_2tr w R (.iface 29 (.slice fp fn fc)) vn vo vr s.nm s.ct t hown (fun w' => ∃ tag' vn vo vr br rm hi, RX w' R (.iface 29 (.slice fp fn fc)) u tag' vn vo vr br rm hi ∧ Gr tag tag' w w') h1 hk' (fun w1 hb => by have := thing_any (h.keep hb) (hE.keep hb) hc t hsz; rw [hn] at this; exact this.mono fun e w' hp => SP.of_ok hb hp)
 ·have hown := h.own
  rw [hp] at hown
  have e : stepS (knownB fl) (takesB fl) s t = openingS s t := by unfold stepS; simp [hp]
  rw [e]
  cases hn : openingS s t with
  | error c => exact take_3p w R (.iface 29 (.slice fp fn fc)) vn vo vr s.nm s.ct t hown (refC c.1 c.2) (fun w' => Mut (fun b => tag b ≠ 0) w w') (fun w1 hb => by have := opening_any (h.keep hb) t; rw [hn] at this; exact this.mono fun e w' hp => SP.of_no hb hp)
  | ok u => exact take_3r w R (.iface 29 (.slice fp fn fc)) vn vo vr s.nm s.ct t hown (fun w' => ∃ tag' vn vo vr br rm hi, RX w' R (.iface 29 (.slice fp fn fc)) u tag' vn vo vr br rm hi ∧ Gr tag tag' w w') (fun w1 hb => by have := opening_any (h.keep hb) t; rw [hn] at this; exact this.mono fun e w' hp => SP.of_ok hb hp)
 ·have hown := h.own
  rw [hp] at hown
  have e : stepS (knownB fl) (takesB fl) s t = workingS (takesB fl) s t := by unfold stepS; simp [hp]
  rw [e]
  cases hn : workingS (takesB fl) s t with
  | error c => exact take_4p w R (.iface 29 (.slice fp fn fc)) vn vo vr s.nm s.ct t hown (refC c.1 c.2) (fun w' => Mut (fun b => tag b ≠ 0) w w') (fun w1 hb => by have := working_any (h.keep hb) (hE.keep hb) hc (hpre.thing (.inl hp)) hp t; rw [hn] at this; exact this.mono fun e w' hp => SP.of_no hb hp)
  | ok u => exact take_4r w R (.iface 29 (.slice fp fn fc)) vn vo vr s.nm s.ct t hown (fun w' => ∃ tag' vn vo vr br rm hi, RX w' R (.iface 29 (.slice fp fn fc)) u tag' vn vo vr br rm hi ∧ Gr tag tag' w w') (fun w1 hb => by have := working_any (h.keep hb) (hE.keep hb) hc (hpre.thing (.inl hp)) hp t; rw [hn] at this; exact this.mono fun e w' hp => SP.of_ok hb hp)
 ·have hown := h.own
  rw [hp] at hown
  have e : stepS (knownB fl) (takesB fl) s t = endingS (takesB fl) s t := by unfold stepS; simp [hp]
  rw [e]
  cases hn : endingS (takesB fl) s t with
  | error c => exact take_5p w R (.iface 29 (.slice fp fn fc)) vn vo vr s.nm s.ct t hown (refC c.1 c.2) (fun w' => Mut (fun b => tag b ≠ 0) w w') (fun w1 hb => by have := ending_any (h.keep hb) (hE.keep hb) (.inr (.inr hp)) t; rw [hn] at this; exact this.mono fun e w' hp => SP.of_no hb hp)
  | ok u => exact take_5r w R (.iface 29 (.slice fp fn fc)) vn vo vr s.nm s.ct t hown (fun w' => ∃ tag' vn vo vr br rm hi, RX w' R (.iface 29 (.slice fp fn fc)) u tag' vn vo vr br rm hi ∧ Gr tag tag' w w') (fun w1 hb => by have := ending_any (h.keep hb) (hE.keep hb) (.inr (.inr hp)) t; rw [hn] at this; exact this.mono fun e w' hp => SP.of_ok hb hp)
end Go.Proofs.YtcmjhjnpcogmgaaGreatDoor
