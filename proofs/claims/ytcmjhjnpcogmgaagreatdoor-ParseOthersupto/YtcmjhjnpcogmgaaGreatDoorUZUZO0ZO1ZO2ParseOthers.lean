/- What is read hangs on the functions' answers at the text's own words alone -/
import Derived.Test.YtcmjhjnpcogmgaaGreatDoorUAuto
import Derived.Test.YtcmjhjnpcogmgaaGreatDoorUZIZM
import Derived.Test.YtcmjhjnpcogmgaaGreatDoorUPC2PT
import Derived.Test.YtcmjhjnpcogmgaaGreatDoorUZTZT2
import Derived.Test.YtcmjhjnpcogmgaaGreatDoorUZK0ZK
import Derived.Test.YtcmjhjnpcogmgaaGreatDoorUZVZV2ZV3ZV4ZV5
import Derived.Deep.AppendLies
import Derived.Test.YtcmjhjnpcogmgaaGreatDoorURL8RL9RMLAxRLX
set_option linter.all false
set_option maxRecDepth 100000
set_option maxHeartbeats 4000000
namespace Go.Proofs.YtcmjhjnpcogmgaaGreatDoor
open Go.RowKit
structure Nms (G : ByteArray → Prop) (s : St) : Prop where
 nm : s.nm.kind = 3 → G s.nm.str
 op : ∀ l ∈ s.op, l.nm.kind = 3 → G l.nm.str
section
variable {K K' : ByteArray → Bool} {T T' : ByteArray → List Bool → Bool} {G : ByteArray → Prop} (hK : ∀ z, G z → K z = K' z) (hT : ∀ z rl, G z → T z rl = T' z rl)
include hT in
theorem close_cg {s : St} {a : Int} (h : Nms G s) : closeS T s a = closeS T' s a := by
 unfold closeS
 cases ho : s.op with
 | nil => rfl
 | cons l r =>
  dsimp only
  by_cases hk : l.nm.kind = 3
  ·rw [if_pos hk, if_pos hk]
   unfold callS
   rw [hT _ _ (h.op l (by rw [ho]; exact List.mem_cons_self) hk)]
  ·rw [if_neg hk, if_neg hk]
include hT in
theorem ending_cg {s : St} {t : Tk} (h : Nms G s) : endingS T s t = endingS T' s t := by
 unfold endingS
 rw [close_cg hT h]
include hK hT in
theorem step_cg {s : St} {t : Tk} (h : Nms G s) (ht : t.kind = 3 → G t.str) : stepS K T s t = stepS K' T' s t := by
 unfold stepS
 rw [close_cg hT h]
 have e1 : thingS K s t = thingS K' s t := by
  unfold thingS
  cases leafN t with
  | some n => rfl
  | none =>
   dsimp only
   by_cases hk : t.kind = 3
   ·rw [if_pos hk, if_pos hk]; unfold namS; rw [hK _ (ht hk)]
   ·rw [if_neg hk, if_neg hk]
 have e2 : workingS T s t = workingS T' s t := by
  unfold workingS
  split
  ·rfl
  ·cases oprI t with
   | some i => rfl
   | none =>
    dsimp only
    cases hw : workS s 0 with
    | error e => rfl
    | ok u =>
     obtain ⟨c, n, _, rfl⟩ := workS_ok hw
     exact ending_cg (s := ⟨s.pl, s.nm, n, s.op, c⟩) hT ⟨h.nm, h.op⟩
 rw [e1, e2, ending_cg hT h]
theorem close_nms {s u : St} {a : Int} (h : Nms G s) (e : closeS T s a = .ok u) : Nms G u := by
 obtain ⟨l, r, ho, hh⟩ := closeS_ok e
 rcases hh with ⟨hk, rl, _, _, _, rfl⟩ | ⟨hk, rfl⟩
 all_goals exact ⟨h.nm, fun y hy => h.op y (by rw [ho]; exact List.mem_cons_of_mem _ hy)⟩
theorem ending_nms {s u : St} {t : Tk} (h : Nms G s) (e : endingS T s t = .ok u) : Nms G u := by
 unfold endingS at e
 split at e
 ·obtain ⟨l, r, ho, hk, hl, rfl⟩ := nextS_ok e
  refine ⟨h.nm, fun y hy => ?_⟩
  rcases List.mem_cons.1 hy with q | q
  ·rw [q]; exact h.op l (by rw [ho]; exact List.mem_cons_self)
  ·exact h.op y (by rw [ho]; exact List.mem_cons_of_mem _ q)
 ·split at e
  ·exact close_nms h e
  ·split at e
   ·cases e; exact h
   ·cases e
theorem open_nms {s : St} {nm : Tk} {p : Int} (h : Nms G s) (hn : nm.kind = 3 → G nm.str) : Nms G ((⟨s.pl, s.nm, s.ns, ⟨nm, [], s.cur⟩ :: s.op, []⟩ : St).to p) :=
 ⟨h.nm, fun y hy => by
  rcases List.mem_cons.1 hy with q | q
  ·rw [q]; exact hn
  ·exact h.op y q⟩
theorem step_nms {s u : St} {t : Tk} (h : Nms G s) (ht : t.kind = 3 → G t.str) (e : stepS K T s t = .ok u) : Nms G u := by
 unfold stepS at e
 split at e
 ·exact close_nms h e
 split at e
 ·obtain ⟨v, h1, h2⟩ := thenS_ok e
  obtain ⟨_, rfl⟩ := addS_ok h1
  cases h2
  exact ⟨h.nm, h.op⟩
 split at e
 ·unfold thingS at e
  split at e
  ·obtain ⟨v, h1, h2⟩ := thenS_ok e
   obtain ⟨_, rfl⟩ := addS_ok h1
   cases h2
   exact ⟨h.nm, h.op⟩
  ·split at e
   ·obtain ⟨_, _, rfl⟩ := namS_ok e
    exact ⟨ht, h.op⟩
   ·split at e
    ·obtain ⟨v, h1, h2⟩ := thenS_ok e
     obtain ⟨_, rfl⟩ := openS_ok h1
     cases h2
     exact open_nms h (fun hh => absurd hh zq16)
    ·split at e
     ·cases e
      exact ⟨h.nm, h.op⟩
     ·cases e
 split at e
 ·unfold openingS at e
  split at e
  ·obtain ⟨v, h1, h2⟩ := thenS_ok e
   obtain ⟨_, rfl⟩ := openS_ok h1
   cases h2
   exact open_nms h h.nm
  ·cases e
 split at e
 ·unfold workingS at e
  split at e
  ·obtain ⟨_, rfl⟩ := addS_ok e
   exact ⟨h.nm, h.op⟩
  ·split at e
   ·obtain ⟨v, h1, h2⟩ := thenS_ok e
    obtain ⟨c, n, _, rfl⟩ := workS_ok h1
    exact ending_nms (s := ⟨s.pl, s.nm, n, s.op, c⟩) ⟨h.nm, h.op⟩ h2
   ·obtain ⟨v, h1, h2⟩ := thenS_ok e
    obtain ⟨c, n, _, rfl⟩ := workS_ok h1
    cases h2
    exact ⟨h.nm, h.op⟩
 ·exact ending_nms h e
include hK hT in
theorem run_cg : ∀ (l : List Tk) {s : St}, Nms G s → (∀ t ∈ l, t.kind = 3 → G t.str) → runS K T s l = runS K' T' s l
 | [], s, _, _ => rfl
 | t :: l, s, h, hg => by
  show thenS (stepS K T s t) (fun u => runS K T u l) = thenS (stepS K' T' s t) (fun u => runS K' T' u l)
  rw [← step_cg hK hT h (hg t List.mem_cons_self)]
  cases e : stepS K T s t with
  | error e => rfl
  | ok u => exact run_cg l (step_nms h (hg t List.mem_cons_self) e) (fun y hy => hg y (List.mem_cons_of_mem _ hy))
include hK hT in
theorem read_cg {l : List Tk} (hg : ∀ t ∈ l, t.kind = 3 → G t.str) : readS K T l = readS K' T' l := by
 unfold readS
 rw [run_cg hK hT l (s := st0) ⟨fun hh => absurd hh zq16, fun y hy => by cases hy⟩ hg]
end
theorem read_more {fl : List Fu} {m : Fu} {l : List Tk} (hg : ∀ t ∈ l, t.kind = 3 → (t.str.toList == m.name.toList) = false) : readS (knownB (m :: fl)) (takesB (m :: fl)) l = readS (knownB fl) (takesB fl) l := by
 refine read_cg (G := fun z => (z.toList == m.name.toList) = false) ?_ ?_ hg
 ·intro z hz
  have hz' : (m.name.toList == z.toList) = false := by
   rw [Bool.eq_false_iff] at hz ⊢
   intro h; apply hz; rw [beq_iff_eq] at h ⊢; exact h.symm
  simp [knownB, hz']
 ·intro z rl hz
  have hz' : (m.name.toList == z.toList) = false := by
   rw [Bool.eq_false_iff] at hz ⊢
   intro h; apply hz; rw [beq_iff_eq] at h ⊢; exact h.symm
  simp [takesB, List.find?, hz']
end Go.Proofs.YtcmjhjnpcogmgaaGreatDoor
namespace Go.Proofs.YtcmjhjnpcogmgaaGreatDoor
open Go.Shelf Go.RowKit
def nodesOf (r : Except (Int × Int) (List Rf.Nd)) : List Rf.Nd := match r with
 | .ok ns => ns
 | .error _ => []
def codeOf (r : Except (Int × Int) (List Rf.Nd)) : Int := match r with
 | .ok _ => 0
 | .error e => e.1
def atOf (r : Except (Int × Int) (List Rf.Nd)) : Int := match r with
 | .ok _ => 0
 | .error e => e.2
theorem ParseP.uni {w w' : World} {r : Except (Int × Int) (List Rf.Nd)} {e : Ending} (h : ParseP w r e w') : ∃ p n cap, e = .returned (.tuple #[.agg #[.slice p n cap], .int .i64 (codeOf r), .int .i64 (atOf r)]) ∧ Rf.NV w' (.slice p n cap) (nodesOf r) ∧ (∀ a, p = some a → w.heap.size ≤ a.block) ∧ Below w.heap.size w w' := by
 cases r with
 | ok ns =>
  obtain ⟨v, rfl, h1, h2, h3⟩ := h
  obtain ⟨p, cap, rfl, _, _⟩ := h1.slice
  exact ⟨p, _, cap, rfl, h1.view Nd_cells_size, fun a ha => h2 a.block (by rw [ha]; rfl), h3⟩
 | error e => exact ⟨none, 0, 0, h.1, ⟨none, 0, rfl, Nat.le_refl _, fun h => absurd h (by simp [nodesOf])⟩, fun a ha => (by cases ha), h.2⟩
theorem nodes_few {K : ByteArray → Bool} {T : ByteArray → List Bool → Bool} {x : ByteArray} : (nodesOf (readS K T (toks x))).length ≤ 1024 := by
 cases h : readS K T (toks x) with
 | error e => simp [nodesOf]
 | ok ns =>
  have := read_may h
  show ns.length ≤ 1024
  unfold Rf.chkI Rf.measN at this
  by_cases h2 : 1024 < ns.length
  ·rw [if_pos h2] at this; simp at this
  ·omega
end Go.Proofs.YtcmjhjnpcogmgaaGreatDoor
namespace Go.Proofs.YtcmjhjnpcogmgaaGreatDoor
open Go.Shelf Go.RowKit Go.ChangeShapes Go.WideShapes Go.ChangeAt
theorem app_ty (ty : TypeId) (v x : Value) (w : World) : (Builtin.append_ #[29, 22] ty #[v, x]).run Tryz.prog w = (Builtin.append_ #[29, 29] ty #[v, x]).run Tryz.prog w := by
 unfold Builtin.append_
 have u1 := Tryz.underlying29
 have u2 := Tryz.underlying22
 cases v <;> simp [Sem.run_bind, Sem.run_pure, underlying, u1, u2, Result.andThen_ok]
theorem infoFu : (Tryz.prog.info? 46).map (fun i => (i.zero, i.size, i.bytes)) = some (some (.agg #[.string ⟨#[]⟩, .int .i64 0, .int .i64 0, .string ⟨#[]⟩]), 4, 48) := by kernel_rfl
theorem app_nil (ty : TypeId) (base : Option Addr) (n cap c : Nat) (w : World) (h : n ≤ cap) : (Builtin.append_ #[29, 29] ty #[.slice base n cap, .slice none 0 c]).run Tryz.prog w = .ok (.slice base n cap) w := by
 obtain ⟨i, hi, _, _, _⟩ := info_parts infoFu
 simp [Builtin.append_, run_underlying Tryz.underlying29, sizeOf, typeInfo, hi, Builtin.lenOf, h, Builtin.firstCells, storeCells]
 cases base <;> rfl
theorem wpList_app2 {w : World} {ops : Array Oper} {rest : List Oper} {o : Oper} {a : Act} {Q : Exit → Act → World → Prop} (hgd : o.guard = none) (s x : Operand)
  (ho : o.op = .call { callee := .builtin .append, args := #[s, x], argTypes := #[29, 22] }) (v xv : Value) (hs : a.eval s = v) (hx : a.eval x = xv) (v' : Value) (w' : World)
  (hr : (Builtin.append_ #[29, 29] o.type #[v, xv]).run Tryz.prog w = .ok v' w') (h : wpList Tryz.prog ops Q rest (a.put o.dst v') w') : wpList Tryz.prog ops Q (o :: rest) a w :=
 wpList_plain hgd fun K hK => by
  have hr' := (app_ty o.type v xv w).trans hr
  unfold Oper.wp execOp
  simp only [ho, resolve, invoke, builtin, Sem.run_bind, Sem.run_pure, Result.andThen_ok, List.map_toArray, List.map_cons, List.map_nil, hs, hx, hr']
  exact hK _ _ h
theorem add_none (b o j : Nat) : (⟨b, o, none⟩ : Addr).add j = ⟨b, o + j, none⟩ := by unfold Addr.add; split <;> simp_all
theorem Fu_size (x : Fu) : (Fu.cells x).size = 4 := rfl
theorem Fu_one (l : List Fu) : ∀ u ∈ Rf.flatC Fu.cells l, u.oneCell' = true := by
 intro u hu
 unfold Rf.flatC at hu
 rw [List.mem_flatMap] at hu
 obtain ⟨x, _, hx⟩ := hu
 have : u = .string x.name ∨ u = .int .i64 x.least ∨ u = .int .i64 x.most ∨ u = .string x.kinds := by simpa [Fu.cells] using hx
 rcases this with rfl | rfl | rfl | rfl <;> rfl
theorem app_funs (W : World) (base : Nat) (v : Value) (m : Fu) (fp : Option Addr) (fn fc : Nat) (fl : List Fu) (ty : TypeId) (hR : Rf.Row Fu.cells 4 46 W base v [m]) (hF : FV W (.slice fp fn fc) fl) (hfl : fl.length ≤ 1048576) (hbase : base ≤ W.heap.size) :
  ∃ v' W', (Builtin.append_ #[29, 29] ty #[v, .slice fp fn fc]).run Tryz.prog W = .ok v' W' ∧ Rf.Row Fu.cells 4 46 W' base v' (m :: fl) ∧ W.grownBy W' v.ownBlock := by
 obtain ⟨p, cap, e, hle, hx⟩ := hF
 cases e
 cases fp with
 | none =>
  have hfl0 : fl = [] := by
   apply Classical.byContradiction
   intro hn
   obtain ⟨b, o, hp, _⟩ := hx (List.length_pos_iff.2 hn)
   cases hp
  subst hfl0
  obtain ⟨g, cap, rfl, hb, hlt⟩ := World.ownsRow.form hR (Nat.lt_add_one 0)
  have hcap : 1 ≤ cap := by
   obtain ⟨p, c2, e, hle2, _⟩ := hR.view Fu_size
   cases e
   exact hle2
  exact ⟨_, W, app_nil ty _ 1 cap fc W hcap, hR, World.grownBy.refl _ _⟩
 | some ad =>
  obtain ⟨i, hi, hz0, hz1, hz2⟩ := info_parts infoFu
  refine Rf.with_fact (p := ∀ j u, (Rf.flatC Fu.cells fl)[j]? = some u → W.cell? (ad.add j) = some u) ?_ ?_
  rotate_left
  ·intro hnews
   obtain ⟨v', w', h1, h2, h3, _⟩ := run_append_own_at (P := Tryz.prog) W base 29 ty 46 i _ 4 48 Tryz.underlying29 hi hz0 hz1 hz2 rfl zq16 v 1 (Rf.flatC Fu.cells [m]) hR ad fl.length fc (Rf.flatC Fu.cells fl) (Rf.flatC_len Fu_size fl) hnews (Fu_one fl) (by unfold maxLen; omega) zq17 hbase
   exact ⟨v', w', h1, by
    unfold Rf.Row
    have e1 : (m :: fl).length = 1 + fl.length := by simp; omega
    rw [e1]
    exact h2, h3⟩
  ·intro j u hj
   have hjl : j < fl.length * 4 := by
    have := (List.getElem?_eq_some_iff.1 hj).1
    rwa [Rf.flatC_len Fu_size] at this
   have hn : fl ≠ [] := by rintro rfl; simp at hjl
   obtain ⟨b, o, hp, _, hc⟩ := hx (List.length_pos_iff.2 hn)
   cases hp
   have hi4 : j / 4 < fl.length := by omega
   have hx4 : fl[j / 4]? = some fl[j / 4] := List.getElem?_eq_getElem hi4
   have hj4 : j = j / 4 * 4 + j % 4 := by omega
   have hr : j % 4 < 4 := Nat.mod_lt _ zq16
   have q1 := Rf.flatC_at (c := Fu.cells) Fu_size fl (j / 4) (j % 4) _ hx4 hr
   rw [← hj4, hj] at q1
   have q2 := hc (j / 4) _ hx4 (j % 4) hr
   rw [← q1] at q2
   have e3 : (⟨b, o, none⟩ : Addr).add j = ⟨b, o + j / 4 * 4 + j % 4, none⟩ := by
    have hj' : o + j / 4 * 4 + j % 4 = o + j := by omega
    rw [add_none, hj']
   rw [e3]
   exact q2
section
variable {H : Type} {enc : TypeId × Value → H} {w : World} {base : Nat} {spare : Nat → Bool} {held : Bool} {r : Reach} {b0 : Nat}
theorem open_fun {v : Value} {d : DataW H} {p : List MemPlace} (hv : Value.okWide Tryz.prog w r b0 46 v) (h : DataW.Trod enc Tryz.prog w base spare held 46 v d p) :
  ∃ x : Fu, v = .agg x.cells ∧ d = datF x := by
 obtain ⟨cs, rfl, hsz⟩ := okWide_struct Tryz.underlying46 hv
 obtain ⟨fuel, hf⟩ := h
 obtain ⟨x, hc, _, _, hy, _⟩ := trod_fun (cs := cs.toList) (by rw [Array.length_toList, hsz, cellsFun]) (by simpa [Value.cells] using hf)
 exact ⟨x, by rw [Array.toList_inj.1 hc], hy⟩
theorem bulk_fun {m : Fu} {d : DataW H} {l k : List (DataW H)} (h : Rows.uptoBulkAll (l ++ d :: k) ≤ 1048576) (hd : d = datF m) : m.kinds.size ≤ 281474976710656 ∧ m.name.size ≤ 281474976710656 := by
 have happ : ∀ a b : List (DataW H), Rows.uptoBulkAll (a ++ b) = Rows.uptoBulkAll a + Rows.uptoBulkAll b := by
  intro a b
  induction a with
  | nil => simp [Rows.uptoBulkAll]
  | cons x r ih => simp only [List.cons_append, Rows.uptoBulkAll, ih]; omega
 rw [happ, hd] at h
 simp only [Rows.uptoBulkAll, datF, Rows.uptoBulk] at h
 rw [size_len, size_len]
 omega
end
theorem rowFun : 46 < Tryz.prog.types.size := of_decide_eq_true zq14
end Go.Proofs.YtcmjhjnpcogmgaaGreatDoor
namespace Go.Proofs.YtcmjhjnpcogmgaaGreatDoor
open Go.Shelf Go.RowKit
theorem row_one {W : World} {v : Value} {m : Fu} (h : W.ownsRow 0 46 4 v (0 + 1) ([] ++ (Fu.cells m).toList)) : Rf.Row Fu.cells 4 46 W 0 v [m] := by
 unfold Rf.Row Rf.flatC
 simpa using h
theorem below_grown {w w' : World} {row : Option Nat} (h : w.grownBy w' row) (hr : ∀ g, row = some g → w.heap.size ≤ g) : Below w.heap.size w w' :=
 ⟨h.os, h.tape, h.output, h.size, fun k hk => h.block k hk (fun e => by have := hr k e.symm; omega)⟩
theorem below_grown2 {w W w' : World} {g : Nat} (hb : Below w.heap.size w W) (h : W.grownBy w' (some g)) (hg : w.heap.size ≤ g) : Below w.heap.size w w' :=
 below_turn hb (Nat.le_refl _) h.os h.tape h.output h.size (fun k hk => h.block k (Nat.lt_of_lt_of_le hk hb.size) (fun e => by cases e; omega))
theorem others6 (w : World) (x : ByteArray) (hx : x.size + 1 ≤ 1048576) (fp : Option Addr) (fn fc : Nat) (fl : List Fu) (hF : FV w (.slice fp fn fc) fl) (hfl : fl.length ≤ 1048576) (hsz : ∀ y ∈ fl, y.kinds.size ≤ 281474976710656 ∧ y.name.size ≤ 281474976710656) (m : Fu) (hm : m.kinds.size ≤ 281474976710656 ∧ m.name.size ≤ 281474976710656) (hS : Sgn w) (hN : Vv.Nam w) (hM : Mx w) : Calls Tryz.prog 7 #[.string x, .slice fp fn fc, .agg #[.string m.name, .int .i64 m.least, .int .i64 m.most, .string m.kinds]] w fun e w' => e = .returned (.bool true) ∧ Below w.heap.size w w' := by
 have hfl' : fl.length ≤ 140737488355328 := by omega
 have HP : Hid (∀ w1, Below w.heap.size w w1 → Calls Tryz.prog 9 #[.string x, .iface 29 (.slice fp fn fc)] w1 (ParseP w1 (readS (knownB fl) (takesB fl) (toks x)))) := fun w1 hb =>
  prs_any x fp fn fc fl w1 zq17 (by have := toks_len x; omega) (fun t ht => by have := toks_str x t ht; omega) (hF.keep hb) hfl' (fun y hy => (hsz y hy).1) (hS.of (hb.block _ hS.lt)) (hN.stays hb) (hM.stays hb)
 have HK : Hid (∀ w1, Below w.heap.size w w1 → Calls Tryz.prog 12 #[] w1 fun e w' => e = .returned (.bool true) ∧ Below w1.heap.size w1 w') := fun w1 hb => known6_any w1 (hS.of (hb.block _ hS.lt)) (hN.stays hb) (hM.stays hb)
 have HL : Hid (∀ w1, Calls Tryz.prog 14 #[.string x] w1 fun e w' => ∃ v, e = .returned v ∧ IsTs w' w1.heap.size v (toks x) ∧ Below w1.heap.size w1 w') := fun w1 => rlex x w1 zq17
 have HG0 : Hid (0 < (toks x).length) := (good_toks x).pos
 have HP2 : Hid (∀ w1 p n cap, Below w.heap.size w w1 → FV w1 (.slice p n cap) (m :: fl) → Calls Tryz.prog 9 #[.string x, .iface 29 (.slice p n cap)] w1 (ParseP w1 (readS (knownB (m :: fl)) (takesB (m :: fl)) (toks x)))) := fun w1 p n cap hb hFV =>
  prs_any x p n cap (m :: fl) w1 zq17 (by have := toks_len x; omega) (fun t ht => by have := toks_str x t ht; omega) hFV (by simp; omega) (fun y hy => by rcases List.mem_cons.1 hy with e | e; rw [e]; exact hm.1; exact (hsz y e).1) (hS.of (hb.block _ hS.lt)) (hN.stays hb) (hM.stays hb)
 have HF : Hid (FV w (.slice fp fn fc) fl) := hF
 clear hS hN hM hF hsz
 have hfew := nodes_few (K := knownB fl) (T := takesB fl) (x := x)
 have HRM : Hid (∀ l : List Tk, (∀ t ∈ l, t.kind = 3 → (t.str.toList == m.name.toList) = false) → readS (knownB (m :: fl)) (takesB (m :: fl)) l = readS (knownB fl) (takesB fl) l) := fun l h => read_more h
 have hlen := toks_len x
 obtain ⟨ts, hts⟩ : ∃ ts, toks x = ts := ⟨_, rfl⟩
 rw [hts] at HP HL HG0 HP2 hfew hlen
 obtain ⟨r, hr⟩ : ∃ r, readS (knownB fl) (takesB fl) ts = r := ⟨_, rfl⟩
 rw [hr] at HP hfew
 have HQ : Hid ((∀ t ∈ ts, t.kind = 3 → (t.str.toList == m.name.toList) = false) → ∀ w1 p n cap, Below w.heap.size w w1 → FV w1 (.slice p n cap) (m :: fl) → Calls Tryz.prog 9 #[.string x, .iface 29 (.slice p n cap)] w1 (ParseP w1 r)) := fun hg w1 p n cap hb hFV => by
  have h := HP2.out w1 p n cap hb hFV
  rwa [HRM.out ts hg, hr] at h
 clear HP2 HRM hr
 obtain ⟨n, hn⟩ : ∃ n, ts.length = n := ⟨_, rfl⟩
 rw [hn] at hlen
 obtain ⟨ns, hns⟩ : ∃ ns, nodesOf r = ns := ⟨_, rfl⟩
 obtain ⟨c, hcd⟩ : ∃ c, codeOf r = c := ⟨_, rfl⟩
 obtain ⟨a, hat⟩ : ∃ a, atOf r = a := ⟨_, rfl⟩
 rw [hns] at hfew
 have hSM : Hid (∀ w1 va vb, Rf.NV w1 va ns → Rf.NV w1 vb ns → Calls Tryz.prog 11 #[.agg #[va], .agg #[vb]] w1 fun e w' => e = .returned (.bool true) ∧ Below w1.heap.size w1 w') := fun w1 va vb h1 h2 => by
  have h := Rf.lsame_any w1 va vb ns ns h1 h2 zq17
  rwa [Rf.sameL_refl] at h
 obtain ⟨i0, hi0, hz0, hz1, hz2⟩ := info_parts infoFu
 have HI : Hid _ := hi0
 have HZ0 : Hid _ := hz0
 have HZ1 : Hid _ := hz1
 have HZ2 : Hid _ := hz2
 clear hi0 hz0 hz1 hz2 hfew hts
 have mixed : Tryz.prog.follows .mixedOrders = true := by kernel_rfl
 go_enter Tryz.func7, Tryz.ntmps7
 go_wp2_with (first | (go_at_call 9; refine (HP.out _ zq1).mono ?_; clear HP; intro e w1 hp1; obtain ⟨p1, n1, c1, rfl, hv1, _, hb1⟩ := hp1.uni; clear hp1; rw [hns] at hv1; rw [hcd, hat]; have hB1 := bux w zq1 hb1; have hz1 : w.heap.size ≤ w1.heap.size := hB1.size; have oM : Own w1 w.heap.size #[.string m.name, .int .i64 m.least, .int .i64 m.most, .string m.kinds] := Own.keep zq4 hb1; have cM := oM.cell; have fM := oM.fro; have lM := oM.lt) | (go_at_call 14; refine (HL.out _).mono ?_; clear HL; rintro e w2 ⟨v2, rfl, hT2, hb2⟩; obtain ⟨g2, cap2, rfl, hg2, hgl2, hc2, _, hcap2⟩ := hT2.form HG0.out; rw [hn] at hcap2 ⊢; clear hT2; have hB2 := bux w zq1 hb2; have hz2 : w.heap.size ≤ w2.heap.size := hB2.size; have oF : Own w2 w1.heap.size #[.slice p1 n1 c1] := Own.keep zq4 hb2; have hV2 : Rf.NV w2 (.slice p1 n1 c1) ns := Rf.View.keep hv1 (bup zq1 hb2); have oM2 : Own w2 w.heap.size #[.string m.name, .int .i64 m.least, .int .i64 m.most, .string m.kinds] := Own.keep zq4 hb2; have cM2 := oM2.cell; have fM2 := oM2.fro; have lM2 := oM2.lt) | (go_at_call 12; refine (HK.out _ zq1).mono ?_; clear HK; rintro e w3 ⟨rfl, hb3⟩; have hB3 : Below w.heap.size w w3 := bup hB2 hb3; have hz3 : w2.heap.size ≤ w3.heap.size := hb3.size; have oF3 : Own w3 w1.heap.size #[.slice p1 n1 c1] := Own.keep oF hb3; have cF3 := oF3.cell; have fF3 := oF3.fro; have lF3 := oF3.lt; have hV3 : Rf.NV w3 (.slice p1 n1 c1) ns := Rf.View.keep hV2 hb3; have oM3 : Own w3 w.heap.size #[.string m.name, .int .i64 m.least, .int .i64 m.most, .string m.kinds] := Own.keep oM2 hb3; have cM3 := oM3.cell; have fM3 := oM3.fro; have lM3 := oM3.lt; have hc3 : ∀ i t, ts[i]? = some t → ∀ j, j < 11 → w3.cell? ⟨g2, i * 11 + j, none⟩ = t.cells[j]? := (fun i t hi j hj => (hb3.cell (p := ⟨g2, i * 11 + j, none⟩) hgl2).trans (hc2 i t hi j hj)); have hgl3 : g2 < w3.heap.size := Nat.lt_of_lt_of_le hgl2 hz3; clear hV2 oF hc2 oM2 cM2 fM2 lM2 cM fM lM oM))
 have HC3 : Hid _ := hc3
 have HV3 : Hid _ := hV3
 have HO3 : Hid _ := oF3
 have HM3 : Hid _ := oM3
 clear hc3 hV3 oF3 cF3 fF3 oM3 cM3 fM3
 go_loopw [11] (fun i wr => ∃ k : Nat, i = .int .i64 k ∧ k ≤ n ∧ Below w3.heap.size w3 wr ∧ Hid (∀ j t, j < k → ts[j]? = some t → t.kind = 3 → (t.str.toList == m.name.toList) = false)) (fun i _ => n - (intOf i).toNat)
 case atStart => exact ⟨0, rfl, Nat.zero_le _, Below.refl _ _, fun j t hj => absurd hj zq17⟩
 case round =>
  obtain ⟨k, rfl, hk, hBr, HA⟩ := hrel
  have hBw : Below w.heap.size w wr := bup hB3 hBr
  have hzr : w3.heap.size ≤ wr.heap.size := hBr.size
  have oMr : Own wr w.heap.size #[.string m.name, .int .i64 m.least, .int .i64 m.most, .string m.kinds] := Own.keep HM3.out hBr
  have cMr := oMr.cell
  have lMr := oMr.lt
  by_cases hlt : k < n
  ·have htk : ts[k]? = some ts[k] := List.getElem?_eq_getElem zq17
   have xK : wr.cell? ⟨g2, k * 11, none⟩ = some (.int .i64 ts[k].kind) := (hBr.cell (p := ⟨g2, k * 11, none⟩) hgl3).trans (HC3.out k _ htk 0 zq16)
   have xS : wr.cell? ⟨g2, k * 11 + 3, none⟩ = some (.string ts[k].str) := (hBr.cell (p := ⟨g2, k * 11 + 3, none⟩) hgl3).trans (HC3.out k _ htk 3 zq16)
   have HA' : Hid _ := HA.out
   have HTK : Hid _ := htk
   clear HA htk
   revert xK xS HTK
   generalize ts[k] = tK
   intro xK xS HTK
   have hlt' : (k : Int) < (n : Int) := by omega
   have hk0 : ¬ (k : Int) < 0 := by omega
   by_cases hk3 : tK.kind = 3
   ·have hk3' : (tK.kind == 3) = true := by simpa using hk3
    cases hst : (tK.str.toList == m.name.toList) with
    | true =>
     go_wp2
     go_region
     go_wp2
     go_ret
     exact ⟨rfl, zq1⟩
    | false =>
     have HR : Hid (∀ j t, j < k + 1 → ts[j]? = some t → t.kind = 3 → (t.str.toList == m.name.toList) = false) := fun j t hj hjt h3 => by
      by_cases e : j = k
      ·subst e; rw [HTK.out] at hjt; cases hjt; exact hst
      ·exact HA'.out j t zq17 hjt h3
     go_wp2
     go_region
     go_wp2
     go_roundw
     case rel => exact ⟨k + 1, by go_num, zq17, zq1, HR⟩
     case measure => simp [intOf]; omega
   ·have hk3' : (tK.kind == 3) = false := by simpa using hk3
    have HR : Hid (∀ j t, j < k + 1 → ts[j]? = some t → t.kind = 3 → (t.str.toList == m.name.toList) = false) := fun j t hj hjt h3 => by
     by_cases e : j = k
     ·subst e; rw [HTK.out] at hjt; cases hjt; exact absurd h3 hk3
     ·exact HA'.out j t zq17 hjt h3
    go_wp2
    go_region
    go_wp2
    go_roundw
    case rel => exact ⟨k + 1, by go_num, zq17, zq1, HR⟩
    case measure => simp [intOf]; omega
  ·have hlt' : ¬ (k : Int) < (n : Int) := by omega
   have HQ' : Hid _ := HQ.out (fun t ht h3 => by
    obtain ⟨j, hj⟩ := List.mem_iff_getElem?.1 ht
    have hjl := (List.getElem?_eq_some_iff.1 hj).1
    exact HA.out j t zq17 hj h3)
   have oFr : Own wr w1.heap.size #[.slice p1 n1 c1] := Own.keep HO3.out hBr
   have cFr := oFr.cell
   have lFr := oFr.lt
   have hVr : Rf.NV wr (.slice p1 n1 c1) ns := Rf.View.keep HV3.out hBr
   clear HQ HA HC3
   go_wp2_with (first | (at_builtin; refine wpList_append_lies _ rfl _ _ 29 rfl 0 46 i0 _ 4 48 Tryz.underlying29 HI.out HZ0.out HZ1.out HZ2.out rfl zq16 (.slice none 0 0) 0 [] rfl ⟨rfl, .inl ⟨rfl, rfl⟩⟩ ⟨wr.heap.size, 0, none⟩ 1 1 (Fu.cells m).toList rfl rfl (fun j u hu => by rw [add_none, Nat.zero_add]; exact ((Own.new _ _ _).cell j).trans (by simpa [Fu.cells] using hu)) (fun u hu => Fu_one [m] u (by simpa [Rf.flatC] using hu)) zq16 (by unfold maxLen; omega) zq17 zq17 (wr.heap.size + 1) (by simp) ?_; intro g4 cap4 w4 hr4 hg4 hd4 hl4; have hA4 : Below wr.heap.size wr w4 := bup zq1 (below_grown hg4 (fun g h => by cases h)); have hq4 : wr.heap.size ≤ g4 := (by rcases hd4 with h | h; cases h; omega)) | (at_builtin; obtain ⟨v5, w5, hr5, hrow5, hgr5⟩ := app_funs w4 0 (.slice (some ⟨g4, 0, none⟩) (0 + 1) cap4) m fp fn fc fl 29 (row_one hr4) (Rf.View.keep HF.out (bup hBw hA4)) hfl (Nat.zero_le _); obtain ⟨g5, cap5, rfl, _, hl5⟩ := World.ownsRow.form hrow5 (by simp); have hFV5 := hrow5.view Fu_size; have hA5 : Below wr.heap.size wr w5 := below_grown2 hA4 hgr5 hq4; have hB5 : Below w.heap.size w w5 := bup hBw hA5; have oF5 : Own w5 w1.heap.size #[.slice p1 n1 c1] := Own.keep oFr hA5; have cF5 := oF5.cell; have fF5 := oF5.fro; have lF5 := oF5.lt; have hV5 : Rf.NV w5 (.slice p1 n1 c1) ns := Rf.View.keep hVr hA5; refine wpList_app2 rfl _ _ rfl _ _ rfl rfl _ w5 hr5 ?_; clear hr5 hrow5 hgr5 hr4 hg4 hd4) | (go_at_call 9; refine (HQ'.out _ _ _ _ zq1 (Rf.View.keep hFV5 zq1)).mono ?_; clear HQ'; intro e w6 hp6; obtain ⟨p6, n6, c6, rfl, hv6, _, hb6⟩ := hp6.uni; clear hp6; rw [hns] at hv6; rw [hcd, hat]; have hB6 := bux w zq1 hb6; have oF6 : Own w6 w1.heap.size #[.slice p1 n1 c1] := Own.keep zq4 hb6; have cF6 := oF6.cell; have fF6 := oF6.fro; have lF6 := oF6.lt; have hV6 : Rf.NV w6 (.slice p1 n1 c1) ns := Rf.View.keep hV5 (bup zq1 hb6)) | (go_at_call 11; refine (hSM.out _ _ _ (Rf.View.keep hV6 zq1) (Rf.View.keep hv6 zq1)).mono ?_; clear hSM; rintro e w7 ⟨rfl, hb7⟩; have hB7 := bux w zq1 hb7))
   go_ret
   exact ⟨rfl, zq1⟩
end Go.Proofs.YtcmjhjnpcogmgaaGreatDoor
namespace Go.Proofs.YtcmjhjnpcogmgaaGreatDoor.parseOthers
open Go.Shelf Go.RowKit Go.ChangeShapes Go.WideShapes Go.ChangeAt
theorem law (w : World) (x : ByteArray) (hx : x.size + 1 ≤ 1048576) (fp : Option Addr) (fn fc : Nat) (fl : List Fu) (hF : FV w (.slice fp fn fc) fl) (hfl : fl.length ≤ 1048576) (hsz : ∀ y ∈ fl, y.kinds.size ≤ 281474976710656 ∧ y.name.size ≤ 281474976710656) (m : Fu) (hm : m.kinds.size ≤ 281474976710656 ∧ m.name.size ≤ 281474976710656) (hS : Sgn w) (hN : Vv.Nam w) (hM : Mx w) : Calls Tryz.prog 7 #[.string x, .slice fp fn fc, .agg m.cells] w fun e w' => e = .returned (.bool true) ∧ Below w.heap.size w w' := others6 w x hx fp fn fc fl hF hfl hsz m hm hS hN hM
theorem reads (os : Os) {H : Type} (enc : TypeId × Value → H) : ∃ places, DataW.whole enc Tryz.prog ((World.laidAll Tryz.prog os tables).forCall (fun _ _ => 0) ⟨#[], #[.string ⟨#[]⟩, .slice none 0 0, .agg #[.string ⟨#[]⟩, .int .i64 0, .int .i64 0, .string ⟨#[]⟩]], []⟩).memory Tryz.f7.params.toList Rows.parseOthersSpec.vars false #[.string ⟨#[]⟩, .slice none 0 0, .agg #[.string ⟨#[]⟩, .int .i64 0, .int .i64 0, .string ⟨#[]⟩]].toList 8 = some ([.lit (.string []), .nil, .agg [.lit (.string []), .lit (.int .i64 0), .lit (.int .i64 0), .lit (.string [])]], [], places) :=
 ⟨[], zq14⟩
theorem met (os : Os) : laidMetH Tryz.prog tables ((World.laidAll Tryz.prog os tables).forCall (fun _ _ => 0) ⟨#[], #[.string ⟨#[]⟩, .slice none 0 0, .agg #[.string ⟨#[]⟩, .int .i64 0, .int .i64 0, .string ⟨#[]⟩]], []⟩).memory := by
 rw [MakeChecks.laidMetH_plain _ _ _ zq14]; exact laidMet_laidAll _ zq14 zq14
theorem lifted (os : Os) (started : os.Started) (H : Type) (enc : TypeId × Value → H) (F : Stop.Interp) :
  ReturnsInHanded {} Tryz.checked os 7 .any ((Rows.OpenSpec.upto Rows.parseOthersSpec).preRow enc Tryz.prog Tryz.f7 Rows.parseOthersUptoRow.domain false Rows.parseOthersUptoRow.laid) (((Rows.OpenSpec.upto Rows.parseOthersSpec).at F).post enc Tryz.prog Tryz.f7 false true false false) := by
 obtain ⟨places, hx⟩ := reads os enc
 refine returnsInHanded_of_row (C := Tryz.checked) (s := Rows.OpenSpec.upto Rows.parseOthersSpec) own started zq14 Tryz.func7
  (witness_row_at (enc := enc) (C := Tryz.checked) false (World.laidAll Tryz.prog os tables) #[.string ⟨#[]⟩, .slice none 0 0, .agg #[.string ⟨#[]⟩, .int .i64 0, .int .i64 0, .string ⟨#[]⟩]] (World.laidAll_os _ _ _) zq14 zq14 zq14
   (OpenSpec.preRow_of_cond 8 hx zq14 (fun k hk => by cases hk; kernel_rfl) zq14 (met os))) ?_
 intro W base args ds gs before hval hW _ hcond _ hL hSh _
 have hW' := hW
 have hlt := hW.lt
 obtain ⟨p, q, hA0, hV, rfl, _, _⟩ := hW
 have hA : DataW.TrodAll enc Tryz.prog W 0 (fun _ => true) true Tryz.f7.params.toList args.toList ds p := hA0
 rw [Tryz.params7] at hA hval
 obtain ⟨v0, vs0, d0, ds0, p0, q0, hargs, rfl, rfl, h0, r0⟩ := trodAll_cons hA
 obtain ⟨v1, vs1, d1, ds1, p1, q1, rfl, rfl, rfl, h1, r1⟩ := trodAll_cons r0
 obtain ⟨v2, vs2, d2, ds2, p2, q2, rfl, rfl, rfl, h2, r2⟩ := trodAll_cons r1
 obtain ⟨rfl, rfl, rfl⟩ := trodAll_nil r2
 obtain rfl : args = #[v0, v1, v2] := by cases args; simp_all
 obtain ⟨rfl, rfl⟩ := trodVars_none hV
 have hk := of_decide_eq_true (hcond _ rfl)
 obtain ⟨x0, rfl, rfl, rfl, wx0⟩ := ChangeMaps.open_string Tryz.underlying9 (hval 0 9 v0 rfl rfl) h0
 obtain ⟨fp1, fn1, fc1, fl1, rfl, fv1, fd1⟩ := open_funs (hval 1 22 v1 rfl rfl) h1
 obtain ⟨len1, sz1⟩ := bulk_funs (l := [DataW.lit (.string x0.data.toList)]) hk fd1
 obtain ⟨fu2, rfl, fd2⟩ := open_fun (hval 2 46 v2 rfl rfl) h2
 have fs2 := bulk_fun (l := [DataW.lit (.string x0.data.toList), d1]) hk fd2
 refine (law W x0 (bulk_str hk) fp1 fn1 fc1 fl1 fv1 zq17 (fun x hx => by have := sz1 x hx; omega) fu2 fs2 (sgn_of_laid hL) (nam_of_laid hL) (mx_of_shaped hSh)).mono fun e W' ⟨he, hb⟩ => ?_
 subst he
 exact ⟨_, rfl, _, _, _, [], _, [], hW', trodAll_mk1 (shut_bool Tryz.underlying4 _), (trodAll_cons_mk (ChangeMaps.shut_string Tryz.underlying9 wx0) (trodAll_cons_mk (WideElems.Trod_stays laidOutZ zq14 rowFuns h1 (fun x hx => hb.same (hlt x (by simp [hx]))) (fun x hx => by have := hlt x (by simp [hx]); simpa using this)) (trodAll_cons_mk (WideElems.Trod_stays laidOutZ zq14 rowFun h2 (fun x hx => hb.same (hlt x (by simp [hx]))) (fun x hx => by have := hlt x (by simp [hx]); simpa using this)) trodAll_mk0))), rfl, hb.frame _, fun h => by cases h⟩
theorem holds : Rows.ParseOthersUptoSaid :=
 OpenClaim.holds_of_cond 7 Tryz.f7 rfl rfl rfl rfl rfl rfl rfl ⟨rfl, rfl, rfl, rfl, rfl⟩ rfl rfl rfl rfl rfl zq14 Tryz.func7 zq14
  (of_decide_eq_true zq14) (by unfold Func.isWrapper; first | (rw [if_pos (by decide +kernel)]; kernel_rfl) | (rw [if_neg (by decide +kernel)]; exact ⟨rfl, rfl⟩))
  (fun os started H enc _ F => by rw [OpenClaim.pre_eq_preRow]; exact lifted os started H enc F)
theorem plain (f : FuncId) (fn : Func) (hf : Tryz.pinned.checked.prog.funcNamed "oriel/oriellaw06.ParseOthers" = some f) (hfn : Tryz.pinned.checked.prog.funcs[f]? = some fn) :
  true = Tryz.pinned.checked.prog.looks [] ∧ ∀ (j : Nat) t, fn.params[j]? = some t → Tryz.pinned.checked.prog.wantsStandIn t = false := by
 obtain rfl : f = 7 := Option.some.inj ((show Tryz.prog.funcNamed "oriel/oriellaw06.ParseOthers" = some 7 by kernel_rfl).symm.trans hf) |>.symm
 obtain rfl : fn = Tryz.f7 := (Option.some.inj (Tryz.func7.symm.trans hfn)).symm
 refine ⟨zq14, fun j t ht => ?_⟩
 rw [Tryz.params7] at ht
 have hm : t ∈ [9, 22, 46] := by simpa using Array.mem_of_getElem? ht
 have hall : ([9, 22, 46].all fun u => !Tryz.prog.wantsStandIn u) = true := by kernel_rfl
 exact (show Tryz.prog.wantsStandIn t = false by simpa using List.all_eq_true.1 hall t hm)
theorem card : Rows.ParseOthersUptoCardSaid :=
 Claim7.holds_tied_plain_at .later [] _ _ _ _ holds (fun _ h => by cases h) zq14 (fun _ h => by cases h) parseOthersUpto_row_tie rfl ⟨rfl, rfl⟩ zq14 rfl plain zq14
end Go.Proofs.YtcmjhjnpcogmgaaGreatDoor.parseOthers
namespace Go.Proofs.YtcmjhjnpcogmgaaGreatDoor
theorem parseOthers_card : Rows.ParseOthersUptoCardSaid := parseOthers.card
end Go.Proofs.YtcmjhjnpcogmgaaGreatDoor
