/- A range over a function whose iterator itself ranges over another, told with footprints: a -/
import Derived.Test.YtcmjhjnpcogmgaaGreatDoorUAuto
import Derived.RangeFuncNested
import Derived.RangeFuncBound
import Derived.RangeFuncLeaves
set_option linter.all false
set_option maxRecDepth 100000
set_option maxHeartbeats 4000000
namespace Go.Proofs.YtcmjhjnpcogmgaaGreatDoor
open Go.RowKit
structure Keep (B : Nat) (Ft : Nat → Prop) (W W' : World) : Prop where
 os : W'.os = W.os
 tape : W'.tape = W.tape
 output : W'.output = W.output
 size : W.heap.size ≤ W'.heap.size
 block : ∀ k, k < W.heap.size → (k < B ∨ Ft k) → W'.heap[k]? = W.heap[k]?
structure Turn (Ft Ft' : Nat → Prop) (W W' : World) : Prop where
 os : W'.os = W.os
 tape : W'.tape = W.tape
 output : W'.output = W.output
 size : W.heap.size ≤ W'.heap.size
 block : ∀ k, k < W.heap.size → ¬ Ft k → W'.heap[k]? = W.heap[k]?
 foot : ∀ k, Ft' k → (Ft k ∨ W.heap.size ≤ k) ∧ k < W'.heap.size
structure Sets (l : Nat) (W W' : World) : Prop where
 os : W'.os = W.os
 tape : W'.tape = W.tape
 output : W'.output = W.output
 size : W'.heap.size = W.heap.size
 block : ∀ k, k ≠ l → W'.heap[k]? = W.heap[k]?
theorem Sets.put (W : World) (l : Nat) (o : Obj) : Sets l W (W.putObj l o) := ⟨rfl, rfl, rfl, World.putObj_size, fun _ h => World.putObj_heap_other h⟩
theorem Keep.of_below {B N : Nat} {Ft : Nat → Prop} {A W : World} (h : Below N A W) (hN : A.heap.size ≤ N) : Keep B Ft A W :=
 ⟨h.os, h.tape, h.output, h.size, fun k hk _ => h.block k zq17⟩
theorem Keep.of_sets {B l : Nat} {Ft : Nat → Prop} {A W : World} (h : Sets l A W) (hB : B ≤ l) (hl : ¬ Ft l) : Keep B Ft A W :=
 ⟨h.os, h.tape, h.output, by rw [h.size]; exact Nat.le_refl _, fun k _ hk => h.block k (by rintro rfl; rcases hk with hk | hk; omega; exact hl hk)⟩
theorem Keep.mono {B B' : Nat} {Ft Ft' : Nat → Prop} {A W : World} (h : Keep B Ft A W) (hB : B' ≤ B) (hF : ∀ b, Ft' b → Ft b) : Keep B' Ft' A W :=
 ⟨h.os, h.tape, h.output, h.size, fun k hk hh => h.block k hk (by rcases hh with hh | hh; left; omega; right; exact hF k hh)⟩
theorem Turn.below {Ft Ft' : Nat → Prop} {A W C : World} {N : Nat} (h : Below N A W) (hN : A.heap.size ≤ N) (k : Turn Ft Ft' W C) (hF : ∀ b, Ft b → b < A.heap.size) : Turn Ft Ft' A C :=
 ⟨k.os.trans h.os, k.tape.trans h.tape, k.output.trans h.output, Nat.le_trans h.size k.size,
  fun i hi hk => (k.block i (Nat.lt_of_lt_of_le hi h.size) hk).trans (h.block i zq17),
  fun i hi => ⟨by rcases (k.foot i hi).1 with h1 | h1; exact .inl h1; have := h.size; exact .inr zq17, (k.foot i hi).2⟩⟩
theorem yield_any {m m' : Nat} {P : Program} {l : Nat} {args : Array Value} {W : World} {R : Ending → World → Prop} (h : YieldAt Fence.wide m P l args W R) : YieldAt Fence.wide m' P l args W R := by
 obtain ⟨fn, tmps, assign, body, hy, hR⟩ := h
 exact ⟨fn, tmps, assign, body, hy, hR.1, fun c cs _ => hR.2 c cs (room_wide _)⟩
def andB (Ft : Nat → Prop) (L : Nat) : Nat → Prop := fun b => Ft b ∨ b = L
end Go.Proofs.YtcmjhjnpcogmgaaGreatDoor
namespace Go.Proofs.YtcmjhjnpcogmgaaGreatDoor
open Go.RowKit
def wpK (f0 : FuncId) (P : Program) (c : Code) (Q : Exit → Act → World → Prop) (a : Act) (w : World) : Prop :=
 ∀ (b : Frame) (k : List Item) (cs : List Frame), b.roundOf = none → b.fn = f0 →
  ∃ e a' w', Q e a' w' ∧ ArrivesIn (Machine.fenced P Fence.wide) P (lone (b.atR a (.code c :: k)) cs w) b k cs e a' w'
theorem wpK_of {f0 : FuncId} {P : Program} {n : Nat} {c : Code} {Q : Exit → Act → World → Prop} {a : Act} {w : World} (h : c.wpIn Fence.wide n P Q a w) : wpK f0 P c Q a w :=
 fun b k cs hro _ => h b k cs hro trivial (room_wide _)
theorem wpK_seq {f0 : FuncId} {P : Program} {x y : Code} {Q : Exit → Act → World → Prop} {a : Act} {w : World} (h : wpK f0 P x (Exit.then (wpK f0 P y Q) Q) a w) : wpK f0 P (Code.seq x y) Q a w := by
 intro b k cs hro hb
 have h0 : (lone (b.atR a (.code (.seq x y) :: k)) cs w).fenced P Fence.wide := fenced_wide _ _
 obtain ⟨e, a₁, w₁, hq, harr⟩ := h b (.code y :: k) cs hro hb
 cases e with
 | normal =>
  obtain ⟨e₂, a₂, w₂, hq₂, harr₂⟩ := hq b k cs hro hb
  exact ⟨e₂, a₂, w₂, hq₂, .of_steps (.head h0 stepR_seq harr) harr₂⟩
 | exit id => exact ⟨_, a₁, w₁, hq, .of_steps (.one h0 stepR_seq) (.pass (x := .code y) rfl (fun _ _ => .inl (by simp)) harr)⟩
 | goto l => exact ⟨_, a₁, w₁, hq, .of_steps (.one h0 stepR_seq) (.pass (x := .code y) rfl (fun _ _ => .inl (by simp)) harr)⟩
 | ret => exact ⟨_, a₁, w₁, hq, .of_steps (.one h0 stepR_seq) (.pass (x := .code y) rfl (fun _ _ => .inl (by simp)) harr)⟩
 | panic ch => exact ⟨_, a₁, w₁, hq, .of_steps (.one h0 stepR_seq) (.pass (x := .code y) rfl (fun _ _ => .inl (by simp)) harr)⟩
 | outgrown => exact ⟨_, a₁, w₁, hq, .of_steps (.one h0 stepR_seq) (.pass (x := .code y) rfl (fun _ _ => .inl (by simp)) harr)⟩
theorem wpK_seq_k {f0 : FuncId} {P : Program} {n : Nat} {x y : Code} {Q : Exit → Act → World → Prop} {a : Act} {w : World} (h : ∀ K : Act → World → Prop, (∀ a w, wpK f0 P y Q a w → K a w) → x.wpIn Fence.wide n P (Exit.then K Q) a w) :
  wpK f0 P (Code.seq x y) Q a w := wpK_seq (wpK_of (h _ fun _ _ h => h))
theorem wpK_block {f0 : FuncId} {P : Program} {id : Nat} {c : Code} {Q : Exit → Act → World → Prop} {a : Act} {w : World} (h : wpK f0 P c (Exit.inBlock id Q) a w) : wpK f0 P (Code.block id c) Q a w := by
 intro b k cs hro hb
 have h0 : (lone (b.atR a (.code (.block id c) :: k)) cs w).fenced P Fence.wide := fenced_wide _ _
 obtain ⟨e, a₁, w₁, hq, harr⟩ := h b (.inBlock id :: k) cs hro hb
 cases e with
 | normal => exact ⟨.normal, a₁, w₁, hq, .head h0 stepR_block (StepsIn.trans harr (.one (fenced_wide _ _) stepR_inBlock))⟩
 | exit id' =>
  by_cases hid : id' = id
  ·simp only [Exit.inBlock, hid, if_true] at hq
   exact ⟨.normal, a₁, w₁, hq, .head h0 stepR_block (harr.1 k (by simp [exitTo, hid]))⟩
  ·simp only [Exit.inBlock, hid, if_false] at hq
   have this : (id == id') = false := by simp; exact fun h => hid h.symm
   have hx : exitTo id' (.inBlock id :: k) = exitTo id' k := by simp [exitTo, this]
   exact ⟨.exit id', a₁, w₁, hq, fun k' hk => .head h0 stepR_block (harr.1 k' (by rw [hx]; exact hk)),
    fun hr' hk => let ⟨k₁, h1, h2⟩ := harr.2 hr' (by rw [hx]; exact hk); ⟨k₁, h1, .head h0 stepR_block h2⟩⟩
 | goto l =>
  have hx : gotoIn l (.inBlock id :: k) = gotoIn l k := by simp [gotoIn]
  exact ⟨_, a₁, w₁, hq, fun k' hk => .head h0 stepR_block (harr.1 k' (by rw [hx]; exact hk)),
   fun hr' hk => let ⟨k₁, h1, h2⟩ := harr.2 hr' (by rw [hx]; exact hk); ⟨k₁, h1, .head h0 stepR_block h2⟩⟩
 | ret => exact ⟨_, a₁, w₁, hq, .of_steps (.one h0 stepR_block) harr⟩
 | panic ch => exact ⟨_, a₁, w₁, hq, .of_steps (.one h0 stepR_block) harr⟩
 | outgrown => exact ⟨_, a₁, w₁, hq, .of_steps (.one h0 stepR_block) harr⟩
theorem callsIn_of_wpK {n : Nat} {P : Program} {f : FuncId} {fn : Func} {c : Code} {args : Array Value} {w : World} {R : Ending → World → Prop}
  (hf : P.funcs[f]? = some fn) (hb : fn.body = some c)
  (h : wpK f P c (bodyPostM Fence.wide n P fn R) { tmps := args ++ Array.replicate (fn.ntmps - args.size) undef, defers := [] } w) : CallsIn Fence.wide n P f args w R := by
 refine ⟨trivial, fun cs hr => ?_⟩
 let b : Frame := { (default : Frame) with fn := f, kind := .normal, roundOf := none }
 have henter : Frame.enter P f args .normal =
   b.atR { tmps := args ++ Array.replicate (fn.ntmps - args.size) undef, defers := [] } [.code c] := by
  simp [Frame.enter, Frame.atR, hf, hb, b]
 obtain ⟨e, a', w', hq, harr⟩ := h b [] cs rfl rfl
 rw [← henter] at harr
 have hF : Fence.wide.fn b.fn := trivial
 cases e with
 | normal =>
  obtain ⟨e', w'', fr', hR, hs, hfn, hl⟩ := leaves_stepsInM a'.defers .returning w' { b.atR a' [] with mode := .returning } cs rfl rfl rfl hf rfl hF hr hq
  exact ⟨e', w'', fr', hR, ComesIn.of_steps (StepsIn.trans harr (.one (fenced_calm (fr := b.atR a' []) hF hr rfl) (stepR_end rfl))) hs, hfn, hl⟩
 | ret =>
  obtain ⟨todo, hs₀⟩ := harr.1 rfl
  obtain ⟨e', w'', fr', hR, hs, hfn, hl⟩ := leaves_stepsInM a'.defers .returning w' { b.atR a' todo with mode := .returning } cs rfl rfl rfl hf rfl hF hr hq
  exact ⟨e', w'', fr', hR, ComesIn.of_steps hs₀ hs, hfn, hl⟩
 | panic chain =>
  obtain ⟨todo, hs₀⟩ := harr
  obtain ⟨e', w'', fr', hR, hs, hfn, hl⟩ := leaves_stepsInM a'.defers (.panicking chain) w' { b.atR a' todo with mode := .panicking chain } cs rfl rfl rfl hf rfl hF hr hq
  exact ⟨e', w'', fr', hR, ComesIn.of_steps hs₀ hs, hfn, hl⟩
 | exit id => exact hq.elim
 | goto l => exact hq.elim
 | outgrown => exact ⟨.outgrown, w', b, hq, harr.resolve_left (by simp [b]), rfl, trivial⟩
def roundPostP (P : Program) (l : Nat) (R : Ending → World → Prop) : Exit → Act → World → Prop
 | .normal, _, w => ∃ v w', (Instr.endRound l none).run P w = .ok v w' ∧ R (.returned v) w'
 | .ret, _, w => ∃ v w', (Instr.endRound l (some .ret)).run P w = .ok v w' ∧ R (.returned v) w'
 | .exit id, _, w => ∃ v w', (Instr.endRound l (some (.exit id))).run P w = .ok v w' ∧ R (.returned v) w'
 | .goto t, _, w => ∃ v w', (Instr.endRound l (some (.goto t))).run P w = .ok v w' ∧ R (.returned v) w'
 | .panic chain, a, w => a.defers = [] ∧ R (.panicked chain) w
 | .outgrown, _, _ => False
theorem roundIn_of_wpInP {n : Nat} {P : Program} {l : Nat} {f : FuncId} {fn : Func} (hf : P.funcs[f]? = some fn) {tmps : Array Value} {assign body : Code} {w : World} {R : Ending → World → Prop}
  (h : assign.wpIn (Fence.wide.inRound l) n P (Exit.then (fun a₁ w₁ => ∃ w₂, (Instr.beginRound l).run P w₁ = .ok () w₂ ∧ body.wpIn (Fence.wide.inRound l) n P (roundPostP P l R) a₁ w₂) (fun _ _ _ => False))
   { tmps := tmps, defers := [] } w) :
  RoundIn Fence.wide n P l f tmps assign body w R := by
 refine ⟨trivial, fun c cs hr => ?_⟩
 let b : Frame := { (default : Frame) with fn := f, kind := .normal, roundOf := some l }
 have hb0 : Frame.round l f tmps assign body .normal = b.atR { tmps := tmps, defers := [] } [.code assign, .beginRound, .code body] := by
  simp [Frame.round, Frame.atR, b]
 have hr' : (Fence.wide.inRound l).room ((c :: cs).length + 1 + n) := hr
 have hF' : (Fence.wide.inRound l).fn b.fn := trivial
 obtain ⟨e, a₁, w₁, hq, harr⟩ := h b [.beginRound, .code body] (c :: cs) rfl hF' hr'
 rw [← hb0] at harr
 cases e with
 | normal =>
  obtain ⟨w₂, hbr, hbody⟩ := hq
  have s1 : StepsIn (Machine.fenced P (Fence.wide.inRound l)) P (lone (b.atR a₁ [.beginRound, .code body]) (c :: cs) w₁) (lone (b.atR a₁ [.code body]) (c :: cs) w₂) :=
   .one (fenced_calm (fr := b.atR a₁ [.beginRound, .code body]) hF' hr' rfl) (stepR_beginRound rfl hbr)
  obtain ⟨e₂, a₂, w₃, hq₂, harr₂⟩ := hbody b [] (c :: cs) rfl hF' hr'
  cases e₂ with
  | normal =>
   obtain ⟨v, w₄, hend, hR⟩ := hq₂
   exact ⟨.returned v, w₄, hR, (StepsIn.trans harr s1).trans (StepsIn.trans harr₂ (.one (fenced_calm (fr := b.atR a₂ []) hF' hr' rfl) (stepR_round_end rfl rfl hend)))⟩
  | ret =>
   obtain ⟨v, w₄, hend, hR⟩ := hq₂
   obtain ⟨k₁, hs⟩ := harr₂.2 rfl
   exact ⟨.returned v, w₄, hR, (StepsIn.trans harr s1).trans (StepsIn.trans hs (.one (fenced_calm (fr := b.atR a₂ (.code .ret :: k₁)) hF' hr' rfl) (stepR_round_ret rfl rfl hend)))⟩
  | exit id =>
   obtain ⟨v, w₄, hend, hR⟩ := hq₂
   obtain ⟨k₁, hk, hs⟩ := harr₂.2 rfl rfl
   exact ⟨.returned v, w₄, hR, (StepsIn.trans harr s1).trans (StepsIn.trans hs (.one (fenced_calm (fr := b.atR a₂ (.code (.exit id) :: k₁)) hF' hr' rfl) (stepR_round_exit rfl rfl hk hend)))⟩
  | goto t =>
   obtain ⟨v, w₄, hend, hR⟩ := hq₂
   obtain ⟨k₁, hk, hs⟩ := harr₂.2 rfl rfl
   exact ⟨.returned v, w₄, hR, (StepsIn.trans harr s1).trans (StepsIn.trans hs (.one (fenced_calm (fr := b.atR a₂ (.code (.goto t) :: k₁)) hF' hr' rfl) (stepR_round_goto rfl rfl hk hend)))⟩
  | panic chain =>
   obtain ⟨hd, hR⟩ := hq₂
   obtain ⟨todo, hs⟩ := harr₂
   have hlv : ({ b.atR a₂ todo with mode := .panicking chain } : Frame).leaving P w₃ (.panicked chain) := ⟨rfl, hd, fn, hf⟩
   exact ⟨.panicked chain, w₃, hR, (StepsIn.trans harr s1).trans (StepsIn.trans hs (.one (fenced_wide _ _) (step_leave_panicked hlv)))⟩
  | outgrown => exact hq₂.elim
 | exit id => exact hq.elim
 | goto t => exact hq.elim
 | ret => exact hq.elim
 | panic chain => exact hq.elim
 | outgrown => exact hq.elim
def GivesP {α : Type} (P : Program) (g : Nat) (lb : Array Value) (encs : α → Array Value) (xs : List α) (own : Nat → Prop) (w0 : World) : Prop :=
 ∀ (l : Nat) (J Jx : Nat → (Nat → Prop) → World → Prop) (Jp : List PanicEntry → Nat → (Nat → Prop) → World → Prop) (Ft0 : Nat → Prop) (W : World),
  (∀ k, own k → W.heap[k]? = w0.heap[k]? ∧ ¬ Ft0 k ∧ k < W.heap.size) →
  (∀ b, Ft0 b → b < W.heap.size) →
  (∀ k Ft A A', J k Ft A → Keep W.heap.size Ft A A' → J k Ft A') →
  (∀ k Ft A A', Jx k Ft A → Keep W.heap.size Ft A A' → Jx k Ft A') →
  (∀ c k Ft A A', Jp c k Ft A → Keep W.heap.size Ft A A' → Jp c k Ft A') →
  (∀ k x Ft W1, xs[k]? = some x → J k Ft W1 → W.heap.size ≤ W1.heap.size → (∀ b, Ft b → b < W1.heap.size) → (∀ b, Ft b → Ft0 b ∨ W.heap.size ≤ b) →
   ∀ m, YieldAt Fence.wide m P l (encs x) W1 fun e W' => ∃ Ft', Turn Ft Ft' W1 W' ∧
    ((e = .returned (.bool true) ∧ J (k + 1) Ft' W') ∨ (e = .returned (.bool false) ∧ Jx (k + 1) Ft' W') ∨ (∃ c, e = .panicked c ∧ Jp c (k + 1) Ft' W'))) →
  J 0 Ft0 W →
  ∀ m, CallsIn Fence.wide m P g (#[.func (.yield l) #[] #[]] ++ lb) W fun e W' => ∃ Ft, W.heap.size ≤ W'.heap.size ∧
   (∀ b, Ft b → b < W'.heap.size) ∧ (∀ b, Ft b → Ft0 b ∨ W.heap.size ≤ b) ∧ (((∃ v, e = .returned v) ∧ (J xs.length Ft W' ∨ ∃ k, k < xs.length ∧ Jx (k + 1) Ft W')) ∨ ∃ c k, e = .panicked c ∧ k < xs.length ∧ Jp c (k + 1) Ft W')
def bPostP (I : Nat → (Nat → Prop) → World → Prop) (Ix : Code → Nat → (Nat → Prop) → World → Prop) (Ip : List PanicEntry → Nat → (Nat → Prop) → World → Prop) (Ft : Nat → Prop) (W : World) (k : Nat) : Exit → Act → World → Prop
 | .normal, _, W' => ∃ Ft', Turn Ft Ft' W W' ∧ I k Ft' W'
 | .ret, _, W' => ∃ Ft', Turn Ft Ft' W W' ∧ Ix .ret k Ft' W'
 | .exit id, _, W' => ∃ Ft', Turn Ft Ft' W W' ∧ Ix (.exit id) k Ft' W'
 | .goto t, _, W' => ∃ Ft', Turn Ft Ft' W W' ∧ Ix (.goto t) k Ft' W'
 | .panic c, a, W' => a.defers = [] ∧ ∃ Ft', Turn Ft Ft' W W' ∧ Ip c k Ft' W'
 | .outgrown, _, _ => False
theorem round_ofP {P : Program} {m B L : Nat} {fn : FuncId} {fu : Func} (hfn : P.funcs[fn]? = some fu) {assign body : Code} {rec : LoopState → Option Code → Loop}
  (hst : ∀ st pe, (rec st pe).state = st) (hsb : ∀ st pe st', { rec st pe with state := st' } = rec st' pe) (hsp : ∀ st pe st' pe', { rec st pe with state := st', pending := pe' } = rec st' pe')
  {tm : Array Value} {W : World} {Ft : Nat → Prop} {k : Nat} {I : Nat → (Nat → Prop) → World → Prop} {Ix : Code → Nat → (Nat → Prop) → World → Prop} {Ip : List PanicEntry → Nat → (Nat → Prop) → World → Prop} {R : Ending → World → Prop}
  (hI : ∀ k Ft A A', I k Ft A → Keep B Ft A A' → I k Ft A') (hIx : ∀ c k Ft A A', Ix c k Ft A → Keep B Ft A A' → Ix c k Ft A') (hB : B ≤ L)
  (hl : W.heap[L]? = some (.loop (rec .ready none))) (hFl : ¬ Ft L) (hF : ∀ b, Ft b → b < W.heap.size)
  (hround : assign.wpIn (Fence.wide.inRound L) m P (Exit.then (fun a1 W1 => Below W.heap.size W W1 ∧ ∀ W2, Sets L W1 W2 → (∃ r, W2.heap[L]? = some (.loop r)) → body.wpIn (Fence.wide.inRound L) m P (bPostP I Ix Ip Ft W2 (k + 1)) a1 W2) (fun _ _ _ => False))
   { tmps := tm, defers := [] } W)
  (hgo : ∀ W3 Ft', Turn (andB Ft L) (andB Ft' L) W W3 → Turn Ft Ft' W W3 → W3.heap[L]? = some (.loop (rec .ready none)) → ¬ Ft' L → I (k + 1) Ft' W3 → R (.returned (.bool true)) W3)
  (hno : ∀ c W3 Ft', Turn (andB Ft L) (andB Ft' L) W W3 → W3.heap[L]? = some (.loop (rec .done (some c))) → ¬ Ft' L → Ix c (k + 1) Ft' W3 → R (.returned (.bool false)) W3)
  (hpa : ∀ c W3 Ft', Turn (andB Ft L) (andB Ft' L) W W3 → ¬ Ft' L → Ip c (k + 1) Ft' W3 → R (.panicked c) W3) :
  RoundIn Fence.wide m P L fn tm assign body W R := by
 refine roundIn_of_wpInP hfn (wpIn_mono hround ?_)
 rintro e a1 W1 hq
 cases e with
 | normal =>
  obtain ⟨hb, hbody⟩ := hq
  have hL : L < W.heap.size := (Array.getElem?_eq_some_iff.1 hl).1
  have hl1 : W1.heap[L]? = some (.loop (rec .ready none)) := (hb.block L hL).trans hl
  have hL1 : L < W1.heap.size := (Array.getElem?_eq_some_iff.1 hl1).1
  refine ⟨_, run_beginRound hl1 (hst _ _), ?_⟩
  rw [hsb]
  have hs := Sets.put W1 L (.loop (rec .busy none))
  have hl2 : (W1.putObj L (.loop (rec .busy none))).heap[L]? = some (.loop (rec .busy none)) := World.putObj_heap_same hL1
  revert hs hl2
  generalize W1.putObj L (.loop (rec .busy none)) = W2
  intro hs hl2
  have hL2 : L < W2.heap.size := (Array.getElem?_eq_some_iff.1 hl2).1
  refine wpIn_mono (hbody W2 hs ⟨_, hl2⟩) ?_
  have hsz := hb.size
  have hsz2 := hs.size
  have fin : ∀ (jump : Option Code) (W3 : World) (Ft' : Nat → Prop), Turn Ft Ft' W2 W3 → ∃ W4, (Instr.endRound L jump).run P W3 = .ok (.bool jump.isNone) W4 ∧
    W4.heap[L]? = some (.loop (rec (if jump.isNone then .ready else .done) jump)) ∧ ¬ Ft' L ∧ Sets L W3 W4 ∧ Turn (andB Ft L) (andB Ft' L) W W4 := fun jump W3 Ft' ht => by
   have hl3 : W3.heap[L]? = some (.loop (rec .busy none)) := (ht.block L hL2 hFl).trans hl2
   have hr := run_endRound (P := P) jump hl3
   rw [hsp] at hr
   have hL3 : L < W3.heap.size := (Array.getElem?_eq_some_iff.1 hl3).1
   have hF' : ¬ Ft' L := fun h => by rcases (ht.foot L h).1 with h1 | h1; exact hFl h1; omega
   refine ⟨_, hr, World.putObj_heap_same hL3, hF', Sets.put _ _ _, ?_⟩
   have hs4 := Sets.put W3 L (.loop (rec (if jump.isNone then .ready else .done) jump))
   refine ⟨(hs4.os.trans ht.os).trans (hs.os.trans hb.os), (hs4.tape.trans ht.tape).trans (hs.tape.trans hb.tape), (hs4.output.trans ht.output).trans (hs.output.trans hb.output), by have := ht.size; rw [hs4.size]; omega, ?_, ?_⟩
   ·intro b hb' hn
    have hbL : b ≠ L := fun e => hn (.inr e)
    have hbF : ¬ Ft b := fun e => hn (.inl e)
    exact ((hs4.block b hbL).trans (ht.block b zq17 hbF)).trans ((hs.block b hbL).trans (hb.block b hb'))
   ·intro b hb'
    rw [hs4.size]
    have := ht.size
    rcases hb' with h1 | h1
    ·obtain ⟨h2, h3⟩ := ht.foot b h1
     exact ⟨by rcases h2 with h2 | h2; exact .inl (.inl h2); exact .inr zq17, h3⟩
    ·exact ⟨.inl (.inr h1), zq17⟩
  rintro e a3 W3 hp
  cases e with
  | normal =>
   obtain ⟨Ft', ht, hi⟩ := hp
   obtain ⟨W4, hr, hl4, hF', hs4, ht4⟩ := fin none W3 Ft' ht
   refine ⟨_, _, hr, hgo _ Ft' ht4 ?_ hl4 hF' (hI _ _ _ _ hi (Keep.of_sets hs4 hB hF'))⟩
   refine ⟨ht4.os, ht4.tape, ht4.output, ht4.size, ?_, ?_⟩
   ·intro b hb' hn
    by_cases e : b = L
    ·subst e; rw [hl4, hl]; rfl
    ·exact ht4.block b hb' (fun h => by rcases h with h | h; exact hn h; exact e h)
   ·intro b hb'
    obtain ⟨h2, h3⟩ := ht4.foot b (.inl hb')
    refine ⟨?_, h3⟩
    rcases h2 with (h2 | h2) | h2
    ·exact .inl h2
    ·subst h2; exact absurd hb' hF'
    ·exact .inr h2
  | ret =>
   obtain ⟨Ft', ht, hi⟩ := hp
   obtain ⟨W4, hr, hl4, hF', hs4, ht4⟩ := fin (some .ret) W3 Ft' ht
   exact ⟨_, _, hr, hno .ret _ Ft' ht4 hl4 hF' (hIx _ _ _ _ _ hi (Keep.of_sets hs4 hB hF'))⟩
  | exit id =>
   obtain ⟨Ft', ht, hi⟩ := hp
   obtain ⟨W4, hr, hl4, hF', hs4, ht4⟩ := fin (some (.exit id)) W3 Ft' ht
   exact ⟨_, _, hr, hno (.exit id) _ Ft' ht4 hl4 hF' (hIx _ _ _ _ _ hi (Keep.of_sets hs4 hB hF'))⟩
  | goto t =>
   obtain ⟨Ft', ht, hi⟩ := hp
   obtain ⟨W4, hr, hl4, hF', hs4, ht4⟩ := fin (some (.goto t)) W3 Ft' ht
   exact ⟨_, _, hr, hno (.goto t) _ Ft' ht4 hl4 hF' (hIx _ _ _ _ _ hi (Keep.of_sets hs4 hB hF'))⟩
  | panic ch =>
   obtain ⟨hd, Ft', ht, hi⟩ := hp
   have hF' : ¬ Ft' L := fun h => by rcases (ht.foot L h).1 with h1 | h1; exact hFl h1; omega
   refine ⟨hd, hpa ch W3 Ft' ?_ hF' hi⟩
   refine ⟨ht.os.trans (hs.os.trans hb.os), ht.tape.trans (hs.tape.trans hb.tape), ht.output.trans (hs.output.trans hb.output), by have := ht.size; omega, ?_, ?_⟩
   ·intro b hb' hn
    have hbL : b ≠ L := fun e => hn (.inr e)
    have hbF : ¬ Ft b := fun e => hn (.inl e)
    exact (ht.block b zq17 hbF).trans ((hs.block b hbL).trans (hb.block b hb'))
   ·intro b hb'
    have := ht.size
    rcases hb' with h1 | h1
    ·obtain ⟨h2, h3⟩ := ht.foot b h1
     exact ⟨by rcases h2 with h2 | h2; exact .inl (.inl h2); exact .inr zq17, h3⟩
    ·exact ⟨.inl (.inr h1), zq17⟩
  | outgrown => exact hp.elim
 | exit id => exact hq.elim
 | goto t => exact hq.elim
 | ret => exact hq.elim
 | panic chain => exact hq.elim
 | outgrown => exact hq.elim
def rangePostK (f0 : FuncId) (P : Program) (l : Nat) (Q : Exit → Act → World → Prop) (a' : Act) : Ending → World → Prop
 | .returned _, w₃ => ∃ jump w₄, (Instr.endLoop l).run P w₃ = .ok jump w₄ ∧
   (match jump with
    | none => Q .normal a' w₄
    | some c => wpK f0 P c Q a' w₄)
 | .panicked chain, w₃ => Q (.panic chain) a' w₃
 | .outgrown, _ => False
theorem wpK_rangeFunc {f0 : FuncId} {P : Program} {g : Operand} {ps : Array Tmp} {assign body : Code} {Q : Exit → Act → World → Prop} {a : Act} {w : World}
  (h : ∃ (l : Nat) (mark : List Deferred) (w₁ : World) (d : Deferred) (w₁' : World) (f : FuncId) (args : Array Value) (w₂ : World),
   (Instr.enterLoop f0 a.tmps ps assign body none).run P w = .ok (l, mark) w₁ ∧
   (resolve a.eval (rangeCall g l) 0).run P w₁ = .ok d w₁' ∧
   (invoke d.target d.args).run P w₁' = .ok (.enter f args) w₂ ∧
   CallsIn Fence.wide 9 P f args w₂ (rangePostK f0 P l Q { a with defers := mark ++ a.defers })) :
  wpK f0 P (Code.rangeFunc g ps assign body) Q a w := by
 intro b k cs hro hb
 obtain ⟨l, mark, w₁, d, w₁', f, args, w₂, he, hres, hinv, hF, hcall⟩ := h
 rw [← hro, ← hb] at he
 have h0 : (lone (b.atR a (.code (.rangeFunc g ps assign body) :: k)) cs w).fenced P Fence.wide := fenced_wide _ _
 have henter := stepR_rangeFunc (P := P) (b := b) (a := a) (k := k) (cs := cs) (w := w) he hres hinv
 obtain ⟨e, w₃, fr, hR, hsteps, hfn, hleave⟩ := hcall (b.atR { a with defers := mark ++ a.defers } (.inRangeFunc l :: k) :: cs) (room_wide _)
 cases e with
 | outgrown => exact hR.elim
 | returned v =>
  have hl : (lone fr (b.atR { a with defers := mark ++ a.defers } (.inRangeFunc l :: k) :: cs) w₃).fenced P Fence.wide := fenced_wide _ _
  obtain ⟨jump, w₄, hend, hj⟩ := hR
  have sback : StepsIn (Machine.fenced P Fence.wide) P (lone (b.atR a (.code (.rangeFunc g ps assign body) :: k)) cs w) (lone (b.atR { a with defers := mark ++ a.defers } ((jump.map Item.code).toList ++ k)) cs w₄) := by
   refine .head h0 henter (StepsIn.trans hsteps (.head hl ?_ (.one (fenced_wide _ _) (stepR_endRangeFunc hend))))
   rw [← finish_atR_inRangeFunc l v]; exact step_leave_returned hleave
  cases jump with
  | none => exact ⟨.normal, _, w₄, hj, sback⟩
  | some c =>
   obtain ⟨e', a'', w₅, hq, harr⟩ := hj b k cs hro hb
   exact ⟨e', a'', w₅, hq, .of_steps sback harr⟩
 | panicked chain =>
  have hl : (lone fr (b.atR { a with defers := mark ++ a.defers } (.inRangeFunc l :: k) :: cs) w₃).fenced P Fence.wide := fenced_wide _ _
  refine ⟨.panic chain, _, w₃, hR, .inRangeFunc l :: k, .head h0 henter (StepsIn.trans hsteps (.one hl ?_))⟩
  rw [← Frame.raise_atR]; exact step_leave_panicked hleave
theorem range_outP {α : Type} {P : Program} {f0 : FuncId} {fu : Func} (hf0 : P.funcs[f0]? = some fu) {g : Operand} {ps : Array Tmp} {assign body : Code} {Q : Exit → Act → World → Prop} {a : Act} {w : World}
  {gf : Nat} {lb : Array Value} (hg : a.eval g = .func (.func gf) #[] lb) (eg : ∀ args w, (callFunc gf args).run P w = .ok (.enter gf args) w)
  {encs : α → Array Value} {xs : List α} {own : Nat → Prop} {w0 : World} (hseq : GivesP P gf lb encs xs own w0) (hps : ∀ x, (encs x).size = ps.size)
  (Ft0 : Nat → Prop) (hown : ∀ k, own k → w.heap[k]? = w0.heap[k]? ∧ ¬ Ft0 k ∧ k < w.heap.size) (hF0 : ∀ b, Ft0 b → b < w.heap.size)
  (I : Nat → (Nat → Prop) → World → Prop) (Ix : Code → Nat → (Nat → Prop) → World → Prop) (Ip : List PanicEntry → Nat → (Nat → Prop) → World → Prop)
  (hI : ∀ k Ft A A', I k Ft A → Keep w.heap.size Ft A A' → I k Ft A') (hIx : ∀ c k Ft A A', Ix c k Ft A → Keep w.heap.size Ft A A' → Ix c k Ft A') (hIp : ∀ c k Ft A A', Ip c k Ft A → Keep w.heap.size Ft A A' → Ip c k Ft A') (h0 : I 0 Ft0 w)
  (hround : ∀ L k x Ft W, xs[k]? = some x → I k Ft W → w.heap.size ≤ L → L < W.heap.size → ¬ Ft L → (∀ b, Ft b → b < W.heap.size) → (∀ b, Ft b → Ft0 b ∨ w.heap.size ≤ b) →
   assign.wpIn (Fence.wide.inRound L) 9 P (Exit.then (fun a1 W1 => Below W.heap.size W W1 ∧ ∀ W2, Sets L W1 W2 → (∃ r, W2.heap[L]? = some (.loop r)) → body.wpIn (Fence.wide.inRound L) 9 P (bPostP I Ix Ip Ft W2 (k + 1)) a1 W2) (fun _ _ _ => False))
    { tmps := (ps.zip (encs x)).foldl (fun t (p, v) => t.setIfInBounds p v) a.tmps, defers := [] } W)
  (hdone : ∀ D Ft W, w.heap.size ≤ D → D < W.heap.size → I xs.length Ft W → ¬ Ft D → (∀ b, Ft b → b < W.heap.size) → (∀ b, Ft b → Ft0 b ∨ w.heap.size ≤ b) → W.heap[D]? = some (.deferred (some [])) → Q .normal { a with defers := { target := .collected D, args := #[] } :: a.defers } W)
  (hstop : ∀ D c k Ft W, w.heap.size ≤ D → D < W.heap.size → k < xs.length → Ix c (k + 1) Ft W → ¬ Ft D → (∀ b, Ft b → b < W.heap.size) → (∀ b, Ft b → Ft0 b ∨ w.heap.size ≤ b) → W.heap[D]? = some (.deferred (some [])) → wpK f0 P c Q { a with defers := { target := .collected D, args := #[] } :: a.defers } W)
  (hpan : ∀ D c k Ft W, w.heap.size ≤ D → D < W.heap.size → k < xs.length → Ip c (k + 1) Ft W → ¬ Ft D → (∀ b, Ft b → b < W.heap.size) → (∀ b, Ft b → Ft0 b ∨ w.heap.size ≤ b) → W.heap[D]? = some (.deferred (some [])) → Q (.panic c) { a with defers := { target := .collected D, args := #[] } :: a.defers } W) :
  wpK f0 P (Code.rangeFunc g ps assign body) Q a w := by
 refine wpK_rangeFunc ?_
 obtain ⟨fn, hfne⟩ : ∃ fn, fn = f0 := ⟨_, rfl⟩
 subst hfne
 have hfn : P.funcs[fn]? = some fu := hf0
 obtain ⟨rec, hrec⟩ : ∃ rec : LoopState → Option Code → Loop, rec = fun st pe => { state := st, pending := pe, fn, tmps := a.tmps, params := ps, assign, body, defers := w.heap.size } := ⟨_, rfl⟩
 obtain ⟨W1, hW1⟩ : ∃ W1, (w.alloc (.deferred (some []))).alloc (.loop (rec .ready none)) = W1 := ⟨_, rfl⟩
 have hz1 : W1.heap.size = w.heap.size + 2 := by rw [← hW1]; simp
 have hL1 : W1.heap[w.heap.size + 1]? = some (.loop (rec .ready none)) := by
  rw [← hW1]; have := World.alloc_heap_new (w.alloc (.deferred (some []))) (.loop (rec .ready none)); rwa [World.size_alloc] at this
 have hK1 : W1.heap[w.heap.size]? = some (.deferred (some [])) := by
  rw [← hW1]; exact (Below.heap_alloc _ _ _ (by simp)).trans (World.alloc_heap_new w _)
 have hb1 : Below w.heap.size w W1 := by
  rw [← hW1]; exact ((Below.refl _ w).alloc (Nat.le_refl _) _).alloc (by simp) _
 have hI1 : I 0 Ft0 W1 := hI _ _ _ _ h0 (Keep.of_below hb1 (Nat.le_refl _))
 refine ⟨w.heap.size + 1, [{ target := .collected w.heap.size, args := #[] }], W1, { target := .fn (.func gf) lb, args := #[.func (.yield (w.heap.size + 1)) #[] #[]] }, W1, gf,
  #[.func (.yield (w.heap.size + 1)) #[] #[]] ++ lb, W1, ?_, ?_, ?_, ?_⟩
 ·rw [← hW1, hrec]; exact run_enterLoop_outer _ _ _ _ _
 ·simp only [resolve, hg]
  simp [go_sem]
 ·simp [invoke, go_sem, eg]
 ·have hst : ∀ st pe, (rec st pe).state = st := fun _ _ => by rw [hrec]
  have hsb : ∀ st pe st', { rec st pe with state := st' } = rec st' pe := fun _ _ _ => by rw [hrec]
  have hsp : ∀ st pe st' pe', { rec st pe with state := st', pending := pe' } = rec st' pe' := fun _ _ _ _ => by rw [hrec]
  have hnF : ∀ Ft : Nat → Prop, (∀ b, Ft b → Ft0 b ∨ W1.heap.size ≤ b) → ∀ b, w.heap.size ≤ b → b < W1.heap.size → ¬ Ft b := fun Ft h b h1 h2 h3 => by
   rcases h b h3 with h4 | h4; have := hF0 b h4; omega; omega
  refine (hseq (w.heap.size + 1)
   (fun k Ft' W => ∃ Ft, Ft' = andB Ft (w.heap.size + 1) ∧ I k Ft W ∧ W.heap[w.heap.size + 1]? = some (.loop (rec .ready none)) ∧ W.heap[w.heap.size]? = some (.deferred (some [])) ∧ (∀ b, Ft b → Ft0 b ∨ W1.heap.size ≤ b))
   (fun k Ft' W => ∃ c Ft, Ft' = andB Ft (w.heap.size + 1) ∧ Ix c k Ft W ∧ W.heap[w.heap.size + 1]? = some (.loop (rec .done (some c))) ∧ W.heap[w.heap.size]? = some (.deferred (some [])) ∧ (∀ b, Ft b → Ft0 b ∨ W1.heap.size ≤ b))
   (fun c k Ft' W => ∃ Ft, Ft' = andB Ft (w.heap.size + 1) ∧ Ip c k Ft W ∧ ¬ Ft (w.heap.size + 1) ∧ W.heap[w.heap.size]? = some (.deferred (some [])) ∧ (∀ b, Ft b → Ft0 b ∨ W1.heap.size ≤ b))
   (andB Ft0 (w.heap.size + 1)) W1 ?_ ?_ ?_ ?_ ?_ ?_ ⟨Ft0, rfl, hI1, hL1, hK1, fun b h => .inl h⟩ _).mono ?_
  ·intro b hb
   obtain ⟨h1, h2, h3⟩ := hown b hb
   exact ⟨(hb1.block b h3).trans h1, fun h => by rcases h with h | h; exact h2 h; omega, zq17⟩
  ·rintro b (h | h)
   ·have := hF0 b h; omega
   ·omega
  ·rintro k Ft' A A' ⟨Ft, rfl, hi, hl, hk, hf⟩ hkeep
   exact ⟨Ft, rfl, hI _ _ _ _ hi (hkeep.mono zq17 (fun b h => .inl h)), (hkeep.block _ (Array.getElem?_eq_some_iff.1 hl).1 (.inr (.inr rfl))).trans hl, (hkeep.block _ (Array.getElem?_eq_some_iff.1 hk).1 (.inl zq17)).trans hk, hf⟩
  ·rintro k Ft' A A' ⟨c, Ft, rfl, hi, hl, hk, hf⟩ hkeep
   exact ⟨c, Ft, rfl, hIx _ _ _ _ _ hi (hkeep.mono zq17 (fun b h => .inl h)), (hkeep.block _ (Array.getElem?_eq_some_iff.1 hl).1 (.inr (.inr rfl))).trans hl, (hkeep.block _ (Array.getElem?_eq_some_iff.1 hk).1 (.inl zq17)).trans hk, hf⟩
  ·rintro c k Ft' A A' ⟨Ft, rfl, hi, hn, hk, hf⟩ hkeep
   exact ⟨Ft, rfl, hIp _ _ _ _ _ hi (hkeep.mono zq17 (fun b h => .inl h)), hn, (hkeep.block _ (Array.getElem?_eq_some_iff.1 hk).1 (.inl zq17)).trans hk, hf⟩
  ·rintro k x Ft' W hx ⟨Ft, rfl, hi, hl, hk, hf⟩ hsz hlt hfr m
   have hL : w.heap.size + 1 < W.heap.size := (Array.getElem?_eq_some_iff.1 hl).1
   have hFl : ¬ Ft (w.heap.size + 1) := hnF Ft hf _ zq17 zq17
   have hFd : ¬ Ft w.heap.size := hnF Ft hf _ zq17 zq17
   have hlt' : ∀ b, Ft b → b < W.heap.size := fun b h => hlt b (.inl h)
   have hy := run_yield (P := P) (args := encs x) hl (by rw [hrec]; exact hps x)
   have hrr := hround (w.heap.size + 1) k x Ft W hx hi zq17 hL hFl hlt' (fun b h => by rcases hf b h with h1 | h1; exact .inl h1; exact .inr zq17)
   refine yield_any (m := 9) ⟨_, _, _, _, hy, ?_⟩
   have e1 : (rec .ready none).fn = fn := by rw [hrec]
   have e2 : (rec .ready none).assign = assign := by rw [hrec]
   have e3 : (rec .ready none).body = body := by rw [hrec]
   have e4 : (rec .ready none).tmps = a.tmps := by rw [hrec]
   have e5 : (rec .ready none).params = ps := by rw [hrec]
   rw [e1, e2, e3, e4, e5]
   have hfoot : ∀ Ft2 W3, Turn (andB Ft (w.heap.size + 1)) (andB Ft2 (w.heap.size + 1)) W W3 → ¬ Ft2 (w.heap.size + 1) → ∀ b, Ft2 b → Ft0 b ∨ W1.heap.size ≤ b := fun Ft2 W3 ht hn b h => by
    rcases (ht.foot b (.inl h)).1 with (h1 | h1) | h1
    ·exact hf b h1
    ·subst h1; exact absurd h hn
    ·exact .inr zq17
   have hD : ∀ Ft2 W3, Turn (andB Ft (w.heap.size + 1)) (andB Ft2 (w.heap.size + 1)) W W3 → W3.heap[w.heap.size]? = some (.deferred (some [])) := fun Ft2 W3 ht =>
    (ht.block _ zq17 (fun h => by rcases h with h | h; exact hFd h; omega)).trans hk
   refine round_ofP (B := w.heap.size) hfn hst hsb hsp hI hIx zq17 hl hFl hlt' hrr ?_ ?_ ?_
   ·intro W3 Ft2 ht _ hl3 hn hi3
    exact ⟨_, ht, .inl ⟨rfl, Ft2, rfl, hi3, hl3, hD _ _ ht, hfoot _ _ ht hn⟩⟩
   ·intro c W3 Ft2 ht hl3 hn hi3
    exact ⟨_, ht, .inr (.inl ⟨rfl, c, Ft2, rfl, hi3, hl3, hD _ _ ht, hfoot _ _ ht hn⟩)⟩
   ·intro c W3 Ft2 ht hn hi3
    exact ⟨_, ht, .inr (.inr ⟨c, rfl, Ft2, rfl, hi3, hn, hD _ _ ht, hfoot _ _ ht hn⟩)⟩
  ·rintro e W2 ⟨Ft', hsz, hlt, hfr, (⟨⟨v, rfl⟩, (⟨Ft, rfl, hi, hl, hk, hf⟩ | ⟨k, hk', c, Ft, rfl, hi, hl, hk, hf⟩)⟩ | ⟨c, k, rfl, hk', Ft, rfl, hi, hFl, hk, hf⟩)⟩
   ·have hFl : ¬ Ft (w.heap.size + 1) := hnF Ft hf _ zq17 zq17
    have hFd : ¬ Ft w.heap.size := hnF Ft hf _ zq17 zq17
    have he := run_endLoop (P := P) hl (by rw [hst]; simp)
    have hpe : (rec .ready none).pending = none := by rw [hrec]
    rw [hsb, hpe] at he
    have hs := Sets.put W2 (w.heap.size + 1) (.loop (rec .exhausted none))
    refine ⟨none, _, he, hdone w.heap.size Ft _ (Nat.le_refl _) (by rw [hs.size]; omega) (hI _ _ _ _ hi (Keep.of_sets hs zq17 hFl)) hFd (fun b h => by rw [hs.size]; exact hlt b (.inl h)) (fun b h => by rcases hf b h with h1 | h1; exact .inl h1; exact .inr zq17) ((hs.block _ zq17).trans hk)⟩
   ·have hFl : ¬ Ft (w.heap.size + 1) := hnF Ft hf _ zq17 zq17
    have hFd : ¬ Ft w.heap.size := hnF Ft hf _ zq17 zq17
    have he := run_endLoop (P := P) hl (by rw [hst]; simp)
    have hpe : (rec .done (some c)).pending = some c := by rw [hrec]
    rw [hsb, hpe] at he
    have hs := Sets.put W2 (w.heap.size + 1) (.loop (rec .exhausted (some c)))
    refine ⟨some c, _, he, hstop w.heap.size c k Ft _ (Nat.le_refl _) (by rw [hs.size]; omega) hk' (hIx _ _ _ _ _ hi (Keep.of_sets hs zq17 hFl)) hFd (fun b h => by rw [hs.size]; exact hlt b (.inl h)) (fun b h => by rcases hf b h with h1 | h1; exact .inl h1; exact .inr zq17) ((hs.block _ zq17).trans hk)⟩
   ·have hFd : ¬ Ft w.heap.size := hnF Ft hf _ zq17 zq17
    exact hpan w.heap.size c k Ft _ (Nat.le_refl _) zq17 hk' hi hFd (fun b h => hlt b (.inl h)) (fun b h => by rcases hf b h with h1 | h1; exact .inl h1; exact .inr zq17) hk
end Go.Proofs.YtcmjhjnpcogmgaaGreatDoor
