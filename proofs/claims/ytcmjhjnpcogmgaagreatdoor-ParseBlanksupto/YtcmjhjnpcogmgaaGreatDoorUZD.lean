/- The contract of parse's read: the nodes of a text's tokens, or it gives up with what is wr -/
import Derived.Test.YtcmjhjnpcogmgaaGreatDoorUAuto
import Derived.Test.YtcmjhjnpcogmgaaGreatDoorUZTZT2
import Derived.Test.YtcmjhjnpcogmgaaGreatDoorUZIZM
import Derived.Test.YtcmjhjnpcogmgaaGreatDoorUPE
set_option linter.all false
set_option maxRecDepth 100000
set_option maxHeartbeats 4000000
namespace Go.Proofs.YtcmjhjnpcogmgaaGreatDoor
open Go.Shelf Go.RowKit
attribute [local go_sem] Oper.semAt_some
theorem RX.same {w w' : World} {R : Nat} {tb : Value} {s : St} {tag : Nat → Nat} {vn vo vr : Value} {br : List Bc} {rm : List Wt} {hi : Nat} (h : RX w R tb s tag vn vo vr br rm hi) (hz : w.heap.size ≤ w'.heap.size) (hb : ∀ b, b < w.heap.size → tag b ≠ 0 → w'.heap[b]? = w.heap[b]?) : RX w' R tb s tag vn vo vr br rm hi :=
 ⟨h.own.of_block (hb _ h.own.lt (by rw [h.tR]; decide)), h.n.of_block fun g hg => hb g (h.n.lt g hg).2 (by rw [h.tn g hg]; decide), h.b.of_block fun g hg => hb g (h.b.lt g hg).2 (by rw [h.to' g hg]; decide), h.r.of_block fun g hg => hb g (h.r.lt g hg).2 (by rw [h.tr g hg]; decide), h.bl.turn fun g hg h5 _ => ⟨hb g hg zq17, rfl⟩, h.ring, h.tR, h.tn, h.to', h.tr, fun b hh => Nat.lt_of_lt_of_le (h.sup b hh) hz, h.fit, h.nsz⟩
theorem below_turn {w A A' : World} {N : Nat} (h : Below N w A) (hN : N ≤ w.heap.size) (os : A'.os = A.os) (tape : A'.tape = A.tape) (output : A'.output = A.output) (size : A.heap.size ≤ A'.heap.size) (block : ∀ k, k < N → A'.heap[k]? = A.heap[k]?) : Below N w A' :=
 ⟨os.trans h.os, tape.trans h.tape, output.trans h.output, Nat.le_trans h.size size, fun k hk => (block k hk).trans (h.block k hk)⟩
def LoopI (K : ByteArray → Bool) (T : ByteArray → List Bool → Bool) (ts : List Tk) (w : World) (n : Nat) (tb : Value) (k : Nat) (Ft : Nat → Prop) (A : World) : Prop :=
 Below w.heap.size w A ∧ A.cell? ⟨w.heap.size + 1, 0, none⟩ = some (.pointer (some ⟨w.heap.size, 0, none⟩)) ∧
  ∃ s tag vn vo vr br rm hi, runS K T st0 (ts.take k) = .ok s ∧ RX A w.heap.size tb s tag vn vo vr br rm hi ∧ Ft = (fun b => tag b ≠ 0) ∧ ∀ b, tag b ≠ 0 → b = w.heap.size ∨ n ≤ b
def LoopP (K : ByteArray → Bool) (T : ByteArray → List Bool → Bool) (ts : List Tk) (w : World) (c : List PanicEntry) (k : Nat) (Ft : Nat → Prop) (A : World) : Prop :=
 Below w.heap.size w A ∧ ∃ ca : Int × Int, runS K T st0 ts = .error ca ∧ c = refC ca.1 ca.2
def ReadP (w : World) (r : Except (Int × Int) (List Rf.Nd)) (e : Ending) (w' : World) : Prop := match r with
 | .ok ns => ∃ v, e = .returned v ∧ NRow w' v ns ∧ (∀ g, v.ownBlock = some g → w.heap.size ≤ g) ∧ Below w.heap.size w w'
 | .error ca => e = .panicked (refC ca.1 ca.2) ∧ Below w.heap.size w w'
theorem read_in (x : ByteArray) (fp : Option Addr) (fn fc : Nat) (fl : List Fu) (w : World) (hs : x.size < 4294967281) (hts : (toks x).length < 1000000000) (hstr : ∀ t ∈ toks x, t.str.size ≤ 281474976710656) (hF : FV w (.slice fp fn fc) fl) (hfl : fl.length ≤ 140737488355328) (hkz : ∀ x ∈ fl, x.kinds.size ≤ 281474976710656) (hS : Sgn w) (hN : Vv.Nam w) (hM : Mx w) (m : Nat) :
  CallsIn Fence.wide m Tryz.prog 20 #[.string x, .iface 29 (.slice fp fn fc)] w (ReadP w (readS (knownB fl) (takesB fl) (toks x))) := by
 have mixed : Tryz.prog.follows .mixedOrders = true := by kernel_rfl
 refine callsIn_wide.2 ((callsIn_wide (n := 7)).1 ?_)
 refine callsIn_of_wpK Tryz.func20 rfl ?_
 simp only [Tryz.ntmps20, List.size_toArray, List.length_cons, List.length_nil, Nat.reduceAdd, Nat.reduceSub, Array.replicate_succ, Array.replicate_zero, List.push_toArray, List.append_toArray, List.nil_append, List.cons_append]
 refine wpK_seq_k (n := 7) fun K hK => ?_
 gi_wp2
 refine wpK_seq_k (n := 7) fun K hK => ?_
 gi_wp2
 refine wpK_seq ?_
 refine wpK_seq_k (n := 7) fun K hK => ?_
 gi_wp2_with (refine ⟨trivial, ?_⟩; gi_at_call 29; refine (callsIn_wide.2 (lex_mk _ _)).mono ?_; rintro e w2 ⟨rfl, rfl⟩)
 refine wpK_block ?_
 have oR0 : Own ((w.alloc (.cells (rdC (.iface 29 (.slice fp fn fc)) 0 (tk0 0) (.slice none 0 0) (.slice none 0 0) (.slice none 0 0) 0) 90)).alloc (.cells #[.pointer (some ⟨w.heap.size, 0, none⟩)] 84)) w.heap.size (rdC (.iface 29 (.slice fp fn fc)) 0 (tk0 0) (.slice none 0 0) (.slice none 0 0) (.slice none 0 0) 0) := Own.past (Own.new _ _ _) _
 have oP0 : Own ((w.alloc (.cells (rdC (.iface 29 (.slice fp fn fc)) 0 (tk0 0) (.slice none 0 0) (.slice none 0 0) (.slice none 0 0) 0) 90)).alloc (.cells #[.pointer (some ⟨w.heap.size, 0, none⟩)] 84)) (w.heap.size + 1) #[.pointer (some ⟨w.heap.size, 0, none⟩)] := Own.at (by simp)
 obtain ⟨V0, hV0⟩ : ∃ V0, (w.alloc (.cells (rdC (.iface 29 (.slice fp fn fc)) 0 (tk0 0) (.slice none 0 0) (.slice none 0 0) (.slice none 0 0) 0) 90)).alloc (.cells #[.pointer (some ⟨w.heap.size, 0, none⟩)] 84) = V0 := ⟨_, rfl⟩
 rw [hV0] at oR0 oP0
 show wpK _ _ _ _ _ (((w.alloc (.cells (rdC (.iface 29 (.slice fp fn fc)) 0 (tk0 0) (.slice none 0 0) (.slice none 0 0) (.slice none 0 0) 0) 90)).alloc (.cells #[.pointer (some ⟨w.heap.size, 0, none⟩)] 84)).alloc (.cells #[.string x] 9))
 rw [hV0]
 have hV0s : V0.heap.size = w.heap.size + 2 := by rw [← hV0]; simp
 have hV0b : Below w.heap.size w V0 := by rw [← hV0]; exact ((Below.refl _ w).alloc (Nat.le_refl _) _).alloc (by simp) _
 clear hV0
 obtain ⟨V, hV⟩ : ∃ V, V0.alloc (.cells #[.string x] 9) = V := ⟨_, rfl⟩
 have hVs : V.heap.size = w.heap.size + 3 := by rw [← hV]; simp [hV0s]
 have hVb : Below w.heap.size w V := by rw [← hV]; exact hV0b.alloc zq17 _
 have oR : Own V w.heap.size (rdC (.iface 29 (.slice fp fn fc)) 0 (tk0 0) (.slice none 0 0) (.slice none 0 0) (.slice none 0 0) 0) := by rw [← hV]; exact oR0.past _
 have oP : Own V (w.heap.size + 1) #[.pointer (some ⟨w.heap.size, 0, none⟩)] := by rw [← hV]; exact oP0.past _
 have hVc : V.cell? ⟨w.heap.size + 1 + 1, 0, none⟩ = some (.string x) := by
  have : Own V (w.heap.size + 1 + 1) #[.string x] := by rw [← hV]; exact Own.at zq17
  exact this.cell 0
 rw [hV]
 clear hV oR0 oP0
 have hVle : V.heap.size ≤ w.heap.size + 3 := by omega
 have hVge : w.heap.size + 3 ≤ V.heap.size := by omega
 clear hVs hV0s hV0b
 have hNV : Vv.Nam V := hN.stays hVb
 have hMV : Mx V := hM.stays hVb
 have hgN := Nam_lt hN
 have hgM := Mx_lt hM
 have hgS := hS.lt
 have hEn : ∀ A tag, Below w.heap.size w A → (∀ b, tag b ≠ 0 → b = w.heap.size ∨ V.heap.size ≤ b) → En A tag fp fn fc fl := fun A tag hb ht => by
  have hz : ∀ b, b < w.heap.size → tag b = 0 := fun b hb => Classical.byContradiction fun hne => by rcases ht b hne with h | h <;> omega
  refine ⟨hF.keep hb, fun h0 a ha => ?_, hfl, hkz, hS.of (hb.block _ hgS), hz _ hgS⟩
  obtain ⟨p, cap, e, hle, hx⟩ := hF
  obtain ⟨b, q, hp, hlt, _⟩ := hx (List.length_pos_iff.2 h0)
  cases e
  rw [hp] at ha; cases ha
  exact hz _ hlt
 have HEn : Hid _ := hEn
 clear hEn hF
 refine range_outP Tryz.func20 (gf := 48) (lb := #[.pointer (some ⟨w.heap.size + 1 + 1, 0, none⟩)]) rfl (enters_of Tryz.func48 zq14 rfl)
  (lex_givesP x (w.heap.size + 1 + 1) V hVc hs hNV hMV) (fun _ => rfl) (fun b => (if b = w.heap.size then 1 else 0) ≠ 0)
  ?own (fun b h => by by_cases e : b = w.heap.size; omega; simp [e] at h)
  (LoopI (knownB fl) (takesB fl) (toks x) w V.heap.size (.iface 29 (.slice fp fn fc)))
  (fun _ _ _ _ => False)
  (LoopP (knownB fl) (takesB fl) (toks x) w)
  ?hI ?hIx ?hIp ?h0 ?round ?done ?stop ?pan
 case own =>
  rintro k (rfl | rfl | rfl)
  ·exact ⟨rfl, by simp; omega, zq17⟩
  ·exact ⟨rfl, by simp; omega, zq17⟩
  ·exact ⟨rfl, by simp; omega, zq17⟩
 case hI =>
  rintro k Ft A A' ⟨a1, a2, s, tag, vn, vo, vr, br, rm, hi, h1, h2, rfl, h4⟩ hk
  have hz := a1.size
  have hP : w.heap.size + 1 < A.heap.size := by obtain ⟨o, ho, _⟩ := cells_of_cell a2; exact (Array.getElem?_eq_some_iff.1 ho).1
  exact ⟨below_turn a1 (Nat.le_refl _) hk.os hk.tape hk.output hk.size (fun k hk' => hk.block k zq17 (.inl zq17)), (World.cell?_of_block (hk.block _ hP (.inl (by show w.heap.size + 1 < _; omega)))).trans a2, s, tag, vn, vo, vr, br, rm, hi, h1, h2.same hk.size (fun b hb ht => hk.block b hb (.inr ht)), rfl, h4⟩
 case hIx => intro c k Ft A A' h; exact h.elim
 case hIp =>
  rintro c k Ft A A' ⟨a1, ca, h1, h2⟩ hk
  have hz := a1.size
  exact ⟨below_turn a1 (Nat.le_refl _) hk.os hk.tape hk.output hk.size (fun k hk' => hk.block k zq17 (.inl zq17)), ca, h1, h2⟩
 case h0 =>
  exact ⟨hVb, oP.cell 0, st0, (fun b => if b = w.heap.size then 1 else 0), _, _, _, [], [], 0, rfl, ⟨oR, Rf.Row.nil _ _, Rf.Row.nil _ _, Rf.Row.nil _ _, trivial, Ring.nil, by simp, fun g hg => (by cases hg), fun g hg => (by cases hg), fun g hg => (by cases hg), fun b hb => (by by_cases e : b = w.heap.size; omega; simp [e] at hb), ⟨zq16, zq16, fun l hl => (by cases hl)⟩, zq16⟩, rfl, fun b hb => by by_cases e : b = w.heap.size; exact .inl e; simp [e] at hb⟩
 case stop => intro D c k Ft A _ _ _ h; exact h.elim
 case pan =>
  rintro D c k Ft A hD hDA hk ⟨a1, ca, h1, rfl⟩ hFD hlt hfr hKd
  refine ⟨by simp, .inl ⟨_, _, rfl, run_takeDeferred hKd, ?_⟩⟩
  have hS := Sets.put A D (.deferred none)
  unfold readS
  rw [h1]
  exact ⟨rfl, below_turn a1 (Nat.le_refl _) hS.os hS.tape hS.output (by rw [hS.size]; exact Nat.le_refl _) (fun k hk' => hS.block k zq17)⟩
 case done =>
  rintro D Ft A hD hDA ⟨a1, a2, s, tag, vn, vo, vr, br, rm, hi, h1, h2, rfl, h4⟩ hFD hlt hfr hKd
  have cR := h2.own.cell
  have lR := h2.own.lt
  have h1' : runS (knownB fl) (takesB fl) st0 (toks x) = .ok s := by rw [List.take_of_length_le (Nat.le_refl _)] at h1; exact h1
  have HR : Hid (readS (knownB fl) (takesB fl) (toks x) = .ok s.ns) := by show _ = _; unfold readS; rw [h1']
  have hS := Sets.put A D (.deferred none)
  have hb1 : Below w.heap.size w (A.putObj D (.deferred none)) := below_turn a1 (Nat.le_refl _) hS.os hS.tape hS.output (by rw [hS.size]; exact Nat.le_refl _) (fun k hk' => hS.block k zq17)
  have hn1 : NRow (A.putObj D (.deferred none)) vn s.ns := h2.n.of_block fun g hg => hS.block g (fun e => hFD (by rw [← e]; show tag g ≠ 0; rw [h2.tn g hg]; decide))
  have hg1 : ∀ g, vn.ownBlock = some g → w.heap.size ≤ g := fun g hg => by rcases h4 g (by rw [h2.tn g hg]; decide) with h | h <;> omega
  refine wpK_of (n := 7) ?_
  gi_wp2
  refine ⟨by simp, .inl ⟨_, _, rfl, run_takeDeferred hKd, ?_⟩⟩
  refine ⟨vn, by simp [results, Tryz.results20, go_sem], ?_⟩
  rw [HR.out]
  exact ⟨vn, rfl, hn1, hg1, hb1⟩
 case round =>
  rintro L k t Ft A hx ⟨a1, a2, s, tag, vn, vo, vr, br, rm, hi, h1, h2, rfl, h4⟩ hL hLA hFL hlt hfr
  have HX : Hid _ := hx
  have HR1 : Hid _ := h1
  have htm := List.mem_of_getElem? hx
  have hkl := (List.getElem?_eq_some_iff.1 hx).1
  have hsz := hstr t htm
  obtain ⟨hpre, hct⟩ := run_pre _ pre_st0 h1
  have hct' : s.ct < 1000000000 := by rw [ct_st0, List.length_take] at hct; omega
  clear hct htm hx h1
  have hP : w.heap.size + 1 < A.heap.size := by obtain ⟨o, ho, _⟩ := cells_of_cell a2; exact (Array.getElem?_eq_some_iff.1 ho).1
  have hz := a1.size
  unfold encT
  dsimp only
  gi_wp2
  refine ⟨bal _ _, fun W2 hset r hr => ?_⟩
  have oT : Own (A.alloc (.cells #[.int .i64 t.kind, .int .i64 t.at', .int .i64 t.num, .string t.str, .int .i64 t.c0, .int .i64 t.c1, .int .i64 t.r0, .int .i64 t.r1, .int .i64 t.r2, .int .i64 t.r3, .int .i64 t.code] 43)) A.heap.size #[.int .i64 t.kind, .int .i64 t.at', .int .i64 t.num, .string t.str, .int .i64 t.c0, .int .i64 t.c1, .int .i64 t.r0, .int .i64 t.r1, .int .i64 t.r2, .int .i64 t.r3, .int .i64 t.code] := Own.new _ _ _
  have hsA : (A.alloc (.cells #[.int .i64 t.kind, .int .i64 t.at', .int .i64 t.num, .string t.str, .int .i64 t.c0, .int .i64 t.c1, .int .i64 t.r0, .int .i64 t.r1, .int .i64 t.r2, .int .i64 t.r3, .int .i64 t.code] 43)).heap.size = A.heap.size + 1 := by simp
  have hbA : ∀ b, b < A.heap.size → b ≠ L → W2.heap[b]? = A.heap[b]? := fun b hb hn => (hset.block b hn).trans (Below.heap_alloc A _ b hb)
  have oT2 : Own W2 A.heap.size #[.int .i64 t.kind, .int .i64 t.at', .int .i64 t.num, .string t.str, .int .i64 t.c0, .int .i64 t.c1, .int .i64 t.r0, .int .i64 t.r1, .int .i64 t.r2, .int .i64 t.r3, .int .i64 t.code] := oT.of_block (hset.block _ zq17)
  have hW2s : W2.heap.size = A.heap.size + 1 := by rw [hset.size, hsA]
  have b1 : Below w.heap.size w W2 := below_turn a1 (Nat.le_refl _) hset.os hset.tape hset.output zq17 (fun k hk' => hbA k zq17 zq17)
  have b2 : W2.cell? ⟨w.heap.size + 1, 0, none⟩ = some (.pointer (some ⟨w.heap.size, 0, none⟩)) := (World.cell?_of_block (hbA _ hP (by show w.heap.size + 1 ≠ _; omega))).trans a2
  have b3 : RX W2 w.heap.size (.iface 29 (.slice fp fn fc)) s tag vn vo vr br rm hi := h2.same zq17 (fun b hb ht => hbA b hb (fun e => hFL (by rw [← e]; exact ht)))
  have HT : Hid _ := take_any b3 (HEn.out W2 tag b1 h4) hct' hpre t hsz
  have cT2 := oT2.cell
  have lT2 := oT2.lt
  clear oT hset hbA a1 a2 h2
  have hrun := runS_at HR1.out HX.out
  have hlow : ∀ b, b < w.heap.size → tag b = 0 := fun b hb => Classical.byContradiction fun hne => by rcases h4 b hne with h | h <;> omega
  have hb2 : ∀ {W3 : World}, Mut (fun b => tag b ≠ 0) W2 W3 → Below w.heap.size w W3 := fun hm => below_turn b1 (Nat.le_refl _) hm.os hm.tape hm.output hm.size (fun k hk' => hm.block k zq17 (fun hh => hh (hlow k hk')))
  cases hst : stepS (knownB fl) (takesB fl) s t with
  | ok u =>
   rw [hst] at HT hrun
   have hfin : ∀ e W3, SP w.heap.size (.iface 29 (.slice fp fn fc)) tag W2 (.ok u) e W3 → ((∃ v, e = .returned v) ∧ ∃ Ft', Turn (fun b => tag b ≠ 0) Ft' W2 W3 ∧ LoopI (knownB fl) (takesB fl) (toks x) w V.heap.size (.iface 29 (.slice fp fn fc)) (k + 1) Ft' W3) := by
    rintro e W3 ⟨hv, tag', vn', vo', vr', br', rm', hi', q1, q2⟩
    refine ⟨hv, (fun b => tag' b ≠ 0), ⟨q2.mu.os, q2.mu.tape, q2.mu.output, q2.mu.size, q2.mu.block, fun b hb => ⟨q2.grow b hb, q1.sup b hb⟩⟩, hb2 q2.mu, ?_, u, tag', vn', vo', vr', br', rm', hi', hrun, q1, rfl, fun b hb => ?_⟩
    ·exact (World.cell?_of_block (q2.mu.block _ (by show w.heap.size + 1 < _; omega) (fun hh => by rcases h4 _ hh with h | h; (have : w.heap.size + 1 = w.heap.size := h; omega); (have : V.heap.size ≤ w.heap.size + 1 := h; omega)))).trans b2
    ·rcases q2.grow b hb with h | h
     ·exact h4 b h
     ·exact .inr zq17
   have HF : Hid _ := hfin
   clear hfin hrun hb2 hlow
   gi_wp2_with (refine ⟨trivial, ?_⟩; gi_at_call 30; refine (CallsIn.inRound L (callsIn_wide.2 HT.out)).mono ?_; intro e W3 hp; obtain ⟨⟨v3, rfl⟩, hq⟩ := HF.out e W3 hp)
   exact hq
  | error ca =>
   rw [hst] at HT hrun
   have hfin : ∀ e W3, SP w.heap.size (.iface 29 (.slice fp fn fc)) tag W2 (.error ca) e W3 → e = .panicked (refC ca.1 ca.2) ∧ ∃ Ft', Turn (fun b => tag b ≠ 0) Ft' W2 W3 ∧ LoopP (knownB fl) (takesB fl) (toks x) w (refC ca.1 ca.2) (k + 1) Ft' W3 := fun e W3 hp =>
    ⟨hp.1, (fun b => tag b ≠ 0), ⟨hp.2.os, hp.2.tape, hp.2.output, hp.2.size, hp.2.block, fun b hb => ⟨.inl hb, Nat.lt_of_lt_of_le (b3.sup b hb) hp.2.size⟩⟩, hb2 hp.2, ca, runS_no hrun, rfl⟩
   have HF : Hid _ := hfin
   clear hfin hrun hb2 hlow
   gi_wp2_with (refine ⟨trivial, ?_⟩; gi_at_call 30; refine (CallsIn.inRound L (callsIn_wide.2 HT.out)).mono ?_; intro e W3 hp; obtain ⟨rfl, hq⟩ := HF.out e W3 hp)
   exact ⟨rfl, hq⟩
def ParseP (w : World) (r : Except (Int × Int) (List Rf.Nd)) (e : Ending) (w' : World) : Prop := match r with
 | .ok ns => ∃ v, e = .returned (.tuple #[.agg #[v], .int .i64 0, .int .i64 0]) ∧ NRow w' v ns ∧ (∀ g, v.ownBlock = some g → w.heap.size ≤ g) ∧ Below w.heap.size w w'
 | .error ca => e = .returned (.tuple #[.agg #[.slice none 0 0], .int .i64 ca.1, .int .i64 ca.2]) ∧ Below w.heap.size w w'
theorem prs_any (x : ByteArray) (fp : Option Addr) (fn fc : Nat) (fl : List Fu) (w : World) (hs : x.size < 4294967281) (hts : (toks x).length < 1000000000) (hstr : ∀ t ∈ toks x, t.str.size ≤ 281474976710656) (hF : FV w (.slice fp fn fc) fl) (hfl : fl.length ≤ 140737488355328) (hkz : ∀ x ∈ fl, x.kinds.size ≤ 281474976710656) (hS : Sgn w) (hN : Vv.Nam w) (hM : Mx w) :
  Calls Tryz.prog 9 #[.string x, .iface 29 (.slice fp fn fc)] w (ParseP w (readS (knownB fl) (takesB fl) (toks x))) := by
 have hR : ∀ w1, Below w.heap.size w w1 → Calls Tryz.prog 20 #[.string x, .iface 29 (.slice fp fn fc)] w1 (ReadP w1 (readS (knownB fl) (takesB fl) (toks x))) := fun w1 hb =>
  callsIn_wide.1 (read_in x fp fn fc fl w1 hs hts hstr (hF.keep hb) hfl hkz (hS.of (hb.block _ hS.lt)) (hN.stays hb) (hM.stays hb) 5)
 cases hr : readS (knownB fl) (takesB fl) (toks x) with
 | error ca =>
  rw [hr] at hR
  exact parse_no x fp fn fc ca.1 ca.2 w hR
 | ok ns =>
  rw [hr] at hR
  refine (parse_ok x fp fn fc (fun v w' => NRow w' v ns ∧ ∀ g, v.ownBlock = some g → w.heap.size + 3 ≤ g) w (fun w1 hb hz => (hR w1 hb).mono ?_)).mono ?_
  ·rintro e w' ⟨v, rfl, h1, h2, h3⟩
   obtain ⟨p, cap, rfl, _, _⟩ := h1.slice
   exact ⟨p, _, cap, rfl, ⟨h1, fun g hg => Nat.le_trans hz (h2 g hg)⟩, h3⟩
  ·rintro e w' ⟨v, w5, rfl, ⟨h1, h2⟩, rfl, hb⟩
   exact ⟨v, rfl, Rf.Row.aside (Rf.Row.aside (Rf.Row.aside h1 _ (fun g hg => by have := h2 g hg; show g ≠ w.heap.size; omega)) _ (fun g hg => by have := h2 g hg; show g ≠ w.heap.size + 1; omega)) _ (fun g hg => by have := h2 g hg; show g ≠ w.heap.size + 1 + 1; omega), fun g hg => by have := h2 g hg; omega, hb⟩
end Go.Proofs.YtcmjhjnpcogmgaaGreatDoor
