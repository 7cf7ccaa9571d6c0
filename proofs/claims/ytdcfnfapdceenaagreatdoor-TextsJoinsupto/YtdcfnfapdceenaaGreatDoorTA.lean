/- The contracts of texts.addText and addNumber: a value taken for a text, a whole number, and put behind the others. Turned are the call's own block and that of the row that grows. The condition: these are unlike blocks; at most 16 things. -/
import Derived.Test.YtdcfnfapdceenaaGreatDoorTM
import Derived.Test.YtdcfnfapdceenaaGreatDoorGW
import Derived.Test.YtdcfnfapdceenaaGreatDoorVA
import Derived.Maps.AppendAt
namespace Go.Proofs.YtdcfnfapdceenaaGreatDoor
open Go.RowKit
set_option linter.all false
def scell (s : ByteArray) : Array Value := #[.string s]
def icell (x : Int) : Array Value := #[.int .i64 x]
theorem scell_size (s : ByteArray) : (scell s).size = 1 := rfl
theorem icell_size (x : Int) : (icell x).size = 1 := rfl
theorem scell_one (s : ByteArray) : ∀ u ∈ (scell s).toList, u.oneCell' = true := by intro u hu; simp [scell] at hu; subst hu; rfl
theorem icell_one (s : Int) : ∀ u ∈ (icell s).toList, u.oneCell' = true := by intro u hu; simp [icell] at hu; subst hu; rfl
theorem infoStr : (Tryz.prog.info? 9).map (fun i => (i.zero, i.size, i.bytes)) = some (some (.string ⟨#[]⟩), 1, 16) := by kernel_rfl
abbrev SRow (w : World) (v : Value) (l : List ByteArray) : Prop := Row scell 1 9 w 0 v l
abbrev IRow (w : World) (v : Value) (l : List Int) : Prop := Row icell 1 2 w 0 v l
set_option maxRecDepth 100000 in
set_option maxHeartbeats 4000000 in
theorem addt_ok (w : World) (R : Nat) (vt vn mo : Value) (l : List ByteArray) (a : Ag) (hn : I64 a.n) (hP : Pow w) (hc : asCodeT a.t a.n a.s a.b a.c = 0) (hR : Own w R #[vt, vn, mo]) (hl : l.length < 16) (hne : ∀ g, vt.ownBlock = some g → g ≠ R) (hrow : SRow w vt l) :
    Calls Tryz.prog 46 #[.pointer (some ⟨R, 0, none⟩), .agg #[.int .i64 a.t, .int .i64 a.n, .string a.s, .bool a.b, .int .i64 a.c]] w fun e w' => ∃ vt', e = .returned (.int .i64 0) ∧ Own w' R #[vt', vn, mo] ∧ SRow w' vt' (l ++ [asTxt a.t a.n a.s a.b a.c]) ∧ Mut (fun b => b = R ∨ vt.ownBlock = some b) w w' ∧ ∀ b, vt'.ownBlock = some b → vt.ownBlock = some b ∨ w.heap.size ≤ b := by
  have mixed : Tryz.prog.follows .mixedOrders = true := by kernel_rfl
  obtain ⟨i0, hi0, hz0, hz1, hz2⟩ := info_parts infoStr
  have HI : Hid _ := hi0
  have HZ0 : Hid _ := hz0
  have HZ1 : Hid _ := hz1
  have HZ2 : Hid _ := hz2
  clear hi0 hz0 hz1 hz2
  have lt := hR.lt
  obtain ⟨p, cap, rfl, hcap, hcm⟩ := hrow.slice
  go_enter Tryz.func46, Tryz.ntmps46
  go_wp2_with (first | (go_at_call 79; refine (aTextV _ _ _ _ _ _ hn (hP.up (by with_reducible (repeat' first | assumption | exact Below.refl _ _ | refine Below.drew ?_ | refine bdrewN ?_ _ | refine Below.setCell ?_ (by first | exact Nat.le_refl _ | (simp; done) | (simp; omega) | omega) _ | refine Below.alloc ?_ (by first | exact Nat.le_refl _ | (simp; done) | (simp; omega) | omega) _)))).mono ?_; rintro e w1 ⟨rfl, hb⟩; rw [hc]; have hB : Below w.heap.size w w1 := bup (by with_reducible (repeat' first | assumption | exact Below.refl _ _ | refine Below.drew ?_ | refine bdrewN ?_ _ | refine Below.setCell ?_ (by first | exact Nat.le_refl _ | (simp; done) | (simp; omega) | omega) _ | refine Below.alloc ?_ (by first | exact Nat.le_refl _ | (simp; done) | (simp; omega) | omega) _)) hb; have z1 := hB.size; have o1 : Own w1 R #[.slice p l.length cap, vn, mo] := Own.keep hR hB; have c := o1.cell; have fz := o1.fro; have lt1 := o1.lt; have r1 : w1.ownsRow 0 9 1 (.slice p l.length cap) l.length (flatC scell l) := Row.keep hrow hB) | (at_builtin; refine wpList_append_lies _ rfl _ _ 57 rfl 0 9 i0 _ 1 16 Tryz.underlying57 HI.out HZ0.out HZ1.out HZ2.out rfl (by decide) (.slice p l.length cap) l.length (flatC scell l) rfl (by with_reducible (repeat' first | exact r1 | assumption | refine World.ownsRow.drew ?_ | refine World.ownsRow.alloc ?_ _)) ⟨w1.heap.size, 0, none⟩ 1 1 (scell (asTxt a.t a.n a.s a.b a.c)).toList rfl rfl (by exact cell_one_new _ _ _) (scell_one _) (by decide) (by unfold maxLen; omega) (by omega) (by omega) (w1.heap.size + 1) (by simp) ?_; intro g5 cap5 w5 hown5 hgrow5 hat5 hlt5; have o5 : Own w5 R #[.slice p l.length cap, vn, mo] := own_grown (by with_reducible (repeat' first | assumption | refine Own.drew ?_ | refine Own.drewN ?_ _ | (refine Own.at ?_; first | rfl | (simp; done)) | refine Own.past ?_ _)) hgrow5 (by intro g' hg'; exact hne g' hg'); have c5 := o5.cell; have f5 := o5.fro; have l5 := o5.lt))
  have hgR : g5 ≠ R := hat5.elim (fun h => hne g5 h) (fun h => by omega)
  have hM : Mut (fun b => b = R ∨ (Value.slice p l.length cap).ownBlock = some b) w w5 := Mut.grown (Mut.alloc (Mut.below (Mut.refl _ _) hB) _) hgrow5 (fun g hg => .inl (.inr hg))
  exact bodyPost_ret (v := .int .i64 0) (by simp [results, Tryz.results46, go_sem]) rfl ⟨_, rfl, own_put (k := 0) o5 (by simp), Row.aside (rsnoc rfl hown5) _ (fun g hg => by have e := own_is hg; subst e; exact hgR), Mut.set hM (.inl (.inl rfl)) _, fun b hb => (own_is hb) ▸ hat5.imp (fun h => h) (fun h => by omega)⟩
set_option maxRecDepth 100000 in
set_option maxHeartbeats 4000000 in
theorem addn_any (w : World) (R : Nat) (vt vn mo : Value) (l : List Int) (a : Ag) (hn : I64 a.n) (hR : Own w R #[vt, vn, mo]) (hl : l.length < 16) (hne : ∀ g, vn.ownBlock = some g → g ≠ R) (hrow : IRow w vn l) :
    Calls Tryz.prog 47 #[.pointer (some ⟨R, 0, none⟩), .agg #[.int .i64 a.t, .int .i64 a.n, .string a.s, .bool a.b, .int .i64 a.c]] w fun e w' => ∃ vn', e = .returned (.int .i64 (cdN a)) ∧ Own w' R #[vt, vn', mo] ∧ IRow w' vn' (l ++ [gwN a]) ∧ Mut (fun b => b = R ∨ vn.ownBlock = some b) w w' ∧ ∀ b, vn'.ownBlock = some b → vn.ownBlock = some b ∨ w.heap.size ≤ b := by
  have mixed : Tryz.prog.follows .mixedOrders = true := by kernel_rfl
  obtain ⟨i0, hi0, hz0, hz1, hz2⟩ := info_parts infoI64
  have HI : Hid _ := hi0
  have HZ0 : Hid _ := hz0
  have HZ1 : Hid _ := hz1
  have HZ2 : Hid _ := hz2
  clear hi0 hz0 hz1 hz2
  have lt := hR.lt
  obtain ⟨p, cap, rfl, hcap, hcm⟩ := hrow.slice
  go_enter Tryz.func47, Tryz.ntmps47
  go_wp2_with (first | (go_at_call 80; refine (gw_any _ a hn).mono ?_; rintro e w1 ⟨rfl, hb⟩; have hB : Below w.heap.size w w1 := bup (by with_reducible (repeat' first | assumption | exact Below.refl _ _ | refine Below.drew ?_ | refine bdrewN ?_ _ | refine Below.setCell ?_ (by first | exact Nat.le_refl _ | (simp; done) | (simp; omega) | omega) _ | refine Below.alloc ?_ (by first | exact Nat.le_refl _ | (simp; done) | (simp; omega) | omega) _)) hb; have z1 := hB.size; have o1 : Own w1 R #[vt, .slice p l.length cap, mo] := Own.keep hR hB; have c := o1.cell; have fz := o1.fro; have lt1 := o1.lt; have r1 : w1.ownsRow 0 2 1 (.slice p l.length cap) l.length (flatC icell l) := Row.keep hrow hB) | (at_builtin; refine wpList_append_lies _ rfl _ _ 58 rfl 0 2 i0 _ 1 8 Tryz.underlying58 HI.out HZ0.out HZ1.out HZ2.out rfl (by decide) (.slice p l.length cap) l.length (flatC icell l) rfl (by with_reducible (repeat' first | exact r1 | assumption | refine World.ownsRow.drew ?_ | refine World.ownsRow.alloc ?_ _)) ⟨w1.heap.size, 0, none⟩ 1 1 (icell (gwN a)).toList rfl rfl (by exact cell_one_new _ _ _) (icell_one _) (by decide) (by unfold maxLen; omega) (by omega) (by omega) (w1.heap.size + 1) (by simp) ?_; intro g5 cap5 w5 hown5 hgrow5 hat5 hlt5; have o5 : Own w5 R #[vt, .slice p l.length cap, mo] := own_grown (by with_reducible (repeat' first | assumption | refine Own.drew ?_ | refine Own.drewN ?_ _ | (refine Own.at ?_; first | rfl | (simp; done)) | refine Own.past ?_ _)) hgrow5 (by intro g' hg'; exact hne g' hg'); have c5 := o5.cell; have f5 := o5.fro; have l5 := o5.lt))
  have hgR : g5 ≠ R := hat5.elim (fun h => hne g5 h) (fun h => by omega)
  have hM : Mut (fun b => b = R ∨ (Value.slice p l.length cap).ownBlock = some b) w w5 := Mut.grown (Mut.alloc (Mut.below (Mut.refl _ _) hB) _) hgrow5 (fun g hg => .inl (.inr hg))
  exact bodyPost_ret (v := .int .i64 (cdN a)) (by simp [results, Tryz.results47, go_sem]) rfl ⟨_, rfl, own_put (k := 1) o5 (by simp), Row.aside (rsnoc rfl hown5) _ (fun g hg => by have e := own_is hg; subst e; exact hgR), Mut.set hM (.inl (.inl rfl)) _, fun b hb => (own_is hb) ▸ hat5.imp (fun h => h) (fun h => by omega)⟩
end Go.Proofs.YtdcfnfapdceenaaGreatDoor
