/- Bytes in a block of their own; the contracts of texts.recased, upper and lower. New memory alone is made. -/
import Derived.Test.YtdcfnfapdceenaaGreatDoorTD
import Derived.Laws.IdiomStrings
namespace Go.Proofs.YtdcfnfapdceenaaGreatDoor
open Go.RowKit
set_option linter.all false
/-- The first cells of a block are these bytes, and may be written. -/
def BB (w : World) (B : Nat) (l : List UInt8) : Prop := B < w.heap.size ∧ ∀ j x, l[j]? = some x → w.cell? ⟨B, j, none⟩ = some (.int .u8 (x.toNat : Int)) ∧ w.frozen? ⟨B, j, none⟩ = false
theorem bb_new (w : World) (s : ByteArray) (cap : Nat) (T : TypeId) : BB (w.drew.alloc (.cells (bytesRow s cap) T ((bytesRow s cap).size, (bytesRow s cap).size + 1))) w.heap.size s.data.toList := by
  refine ⟨by simp, fun j x hj => ?_⟩
  have hjl := (List.getElem?_eq_some_iff.1 hj).1
  have hjs : j < s.data.size := by simpa using hjl
  have hx : s.data[j] = x := by
    have := (List.getElem?_eq_some_iff.1 hj).2
    simpa using this
  have h1 := World.cell?_alloc_mark w.drew (bytesRow s cap) T ((bytesRow s cap).size, (bytesRow s cap).size + 1) j
  have h2 := World.frozen?_alloc_mark w.drew (bytesRow s cap) T (bytesRow s cap).size ((bytesRow s cap).size + 1) j
  have hsz : j < (bytesRow s cap).size := by unfold bytesRow; rw [Array.size_append, Array.size_map]; omega
  refine ⟨h1.trans ?_, h2.trans ?_⟩
  · rw [bytesRow_at s cap j hjs, hx]
  · rw [decide_eq_false (by omega)]; rfl
theorem BB.keep {w w' : World} {B : Nat} {l : List UInt8} (h : BB w B l) (hb : Below w.heap.size w w') : BB w' B l :=
  ⟨Nat.lt_of_lt_of_le h.1 hb.size, fun j x hj => ⟨(hb.cell (p := ⟨B, j, none⟩) h.1).trans (h.2 j x hj).1, (World.frozen?_of_block (a := ⟨B, j, none⟩) (hb.block B h.1)).trans (h.2 j x hj).2⟩⟩
theorem BB.put {w : World} {B k : Nat} {l : List UInt8} (h : BB w B l) (hk : k < l.length) (x : UInt8) : BB (w.setCell ⟨B, k, none⟩ (.int .u8 (x.toNat : Int))) B (l.set k x) := by
  refine ⟨by simpa [World.setCell] using h.1, fun j y hj => ⟨?_, by rw [World.frozen?_setCell]; have hl : j < l.length := (by have := (List.getElem?_eq_some_iff.1 hj).1; simpa using this); exact (h.2 j _ (List.getElem?_eq_getElem hl)).2⟩⟩
  by_cases ho : j = k
  · subst ho
    rw [World.cell?_setCell_same' _ _ _ (by rw [(h.2 j _ (List.getElem?_eq_getElem hk)).1]; rfl)]
    rw [List.getElem?_set_self hk] at hj
    cases hj
    rfl
  · rw [World.cell?_setCell_other _ _ _ _ (by intro hh; exact ho (by simpa using (congrArg Addr.off hh).symm))]
    rw [List.getElem?_set_ne (fun e => ho e.symm)] at hj
    exact (h.2 j y hj).1
theorem bb_back {w : World} {B : Nat} {l : List UInt8} (h : BB w B l) (n cap : Nat) (hn : l.length = n) : (convert 73 9 (.slice (some ⟨B, 0, none⟩) n cap)).run Tryz.prog w = .ok (.string ⟨l.toArray⟩) w := by
  subst hn
  exact run_convert_bytes_back (P := Tryz.prog) w 73 9 5 ⟨B, 0, none⟩ cap l Tryz.underlying73 Tryz.underlying5 Tryz.underlying9 (fun j hj => by
    have e : ((⟨B, 0, none⟩ : Addr).add j) = ⟨B, j, none⟩ := by simp [Addr.add]; omega
    rw [e]; exact (h.2 j _ (List.getElem?_eq_getElem hj)).1)
def upB (b : UInt8) : UInt8 := if 97 ≤ b.toNat ∧ b.toNat < 123 then UInt8.ofNat (b.toNat - 32) else b
def loB (b : UInt8) : UInt8 := if 65 ≤ b.toNat ∧ b.toNat < 91 then UInt8.ofNat (b.toNat + 32) else b
def half (f : UInt8 → UInt8) (l : List UInt8) (i : Nat) : List UInt8 := (l.take i).map f ++ l.drop i
theorem half_len (f : UInt8 → UInt8) (l : List UInt8) (i : Nat) : (half f l i).length = l.length := by
  unfold half; rw [List.length_append, List.length_map, List.length_take, List.length_drop]; omega
theorem half_at {f : UInt8 → UInt8} {l : List UInt8} {i : Nat} (h : i < l.length) : (half f l i)[i]? = l[i]? := by
  unfold half
  rw [List.getElem?_append_right (by rw [List.length_map, List.length_take]; omega), List.length_map, List.length_take, Nat.min_eq_left (by omega), Nat.sub_self, List.getElem?_drop, Nat.add_zero]
theorem half_set {f : UInt8 → UInt8} {l : List UInt8} {i : Nat} {x : UInt8} (h : l[i]? = some x) : (half f l i).set i (f x) = half f l (i + 1) := by
  have hi := (List.getElem?_eq_some_iff.1 h).1
  unfold half
  rw [List.take_succ, h, List.map_append, List.set_append_right _ _ (by rw [List.length_map, List.length_take]; omega), List.length_map, List.length_take, Nat.min_eq_left (by omega), Nat.sub_self, List.append_assoc]
  congr 1
  rw [List.drop_eq_getElem_cons hi]
  have hx : l[i] = x := (List.getElem?_eq_some_iff.1 h).2
  rw [hx]
  rfl
theorem half_same {f : UInt8 → UInt8} {l : List UInt8} {i : Nat} {x : UInt8} (h : l[i]? = some x) (hf : f x = x) : half f l (i + 1) = half f l i := by
  rw [← half_set h, hf]
  have hi := (List.getElem?_eq_some_iff.1 h).1
  apply List.ext_getElem? 
  intro j
  rw [List.getElem?_set]
  by_cases e : i = j
  · subst e
    rw [if_pos rfl, half_at hi, h, half_len, if_pos hi]
  · rw [if_neg e]
theorem half_all (f : UInt8 → UInt8) (l : List UInt8) {i : Nat} (h : l.length ≤ i) : half f l i = l.map f := by
  unfold half; rw [List.take_of_length_le h, List.drop_eq_nil_iff.2 h, List.append_nil]
theorem wrapU8 (n : Int) : IntKind.u8.wrap n = n % 256 := by simp [IntKind.wrap, IntKind.bits, IntKind.signed]
theorem up_in {x : UInt8} (h1 : 97 ≤ x.toNat) (h2 : x.toNat < 123) : ((upB x).toNat : Int) = (x.toNat : Int) - 97 + 65 := by
  unfold upB
  rw [if_pos ⟨h1, h2⟩, UInt8.toNat_ofNat']
  omega
theorem up_out {x : UInt8} (h : ¬ (97 ≤ x.toNat ∧ x.toNat < 123)) : upB x = x := by unfold upB; rw [if_neg h]
set_option maxRecDepth 100000 in
set_option maxHeartbeats 1000000 in
theorem rc_up (s : ByteArray) (w : World) (hs : s.size ≤ 9223372036854775807) : Calls Tryz.prog 95 #[.string s, .int .u8 97, .int .u8 65] w fun e w' => e = .returned (.string ⟨(s.data.toList.map upB).toArray⟩) ∧ Below w.heap.size w w' := by
  have mixed : Tryz.prog.follows .mixedOrders = true := by kernel_rfl
  have hcv := fun w => run_bytes_of_string (P := Tryz.prog) w 9 73 5 s Tryz.underlying9 Tryz.underlying73 Tryz.underlying5
  go_enter Tryz.func95, Tryz.ntmps95
  go_wp2
  clear hcv
  generalize grownCap w s.size 0 5 = cap
  obtain ⟨w0, hw0⟩ : ∃ w0, (w.alloc (.cells (bytesRow s cap) 5 ((bytesRow s cap).size, (bytesRow s cap).size + 1))).drew = w0 := ⟨_, rfl⟩
  have hbb : BB w0 w.heap.size s.data.toList := by rw [← hw0]; exact bb_new w s cap _
  have hB0 : Below w.heap.size w w0 := by rw [← hw0]; exact ((Below.refl _ _).alloc (Nat.le_refl _) _).drew
  rw [hw0]
  clear hw0
  have hL : Hid (s.data.toList.length = s.size) := (show s.data.toList.length = s.data.size from Array.length_toList)
  generalize hle : s.data.toList = l at *
  generalize s.size = n at *
  go_loopw [14] (fun v w' => ∃ i : Nat, v = .int .i64 i ∧ i ≤ n ∧ Hid (BB w' w.heap.size (half upB l i)) ∧ Below w.heap.size w w') (fun v _ => n - (intOf v).toNat)
  case atStart => exact ⟨0, rfl, by omega, (show BB _ _ _ from by unfold half; simpa using hbb), hB0⟩
  case round =>
    obtain ⟨i, rfl, hii, hb, hB⟩ := hrel
    have zz := hb.out.1
    by_cases hlt : i < n
    · have hlt' : (i : Int) < n := by omega
      have hai : l[i]? = some (l[i]'(by rw [hL.out]; exact hlt)) := List.getElem?_eq_getElem _
      have HAi : Hid _ := hai
      revert HAi
      generalize (l[i]'(by rw [hL.out]; exact hlt)) = x
      intro HAi
      clear hai
      have hq := hb.out.2 i x (by rw [half_at (by rw [hL.out]; exact hlt)]; exact HAi.out)
      obtain ⟨c0, f0⟩ := hq
      have h256 : x.toNat < 256 := x.toNat_lt
      have HU1 : 97 ≤ x.toNat → x.toNat < 123 → ((upB x).toNat : Int) = (x.toNat : Int) - 97 + 65 := up_in
      by_cases g1 : 97 ≤ x.toNat
      · by_cases g2 : x.toNat < 123
        · have hout : Hid (((upB x).toNat : Int) = (x.toNat : Int) - 97 + 65) := HU1 g1 g2
          clear HU1
          have k1 : (97 : Int) ≤ (x.toNat : Int) := by omega
          have k2 : (x.toNat : Int) < 123 := by omega
          have u1 : IntKind.u8.wrap ((x.toNat : Int) - 97) = (x.toNat : Int) - 97 := by rw [wrapU8]; omega
          have u2 : IntKind.u8.wrap ((x.toNat : Int) - 97 + 65) = (x.toNat : Int) - 97 + 65 := by rw [wrapU8]; omega
          have u3 : ((x.toNat : Int) - 97) % 256 = (x.toNat : Int) - 97 := by omega
          have u4 : ((x.toNat : Int) - 97 + 65) % 256 = (x.toNat : Int) - 97 + 65 := by omega
          go_wp2
          refine ⟨⟨i + 1, by go_num, by omega, ?_, by with_reducible (repeat' first | assumption | exact Below.refl _ _ | refine Below.drew ?_ | refine bdrewN ?_ _ | refine Below.setCell ?_ (by first | exact Nat.le_refl _ | (simp; done) | (simp; omega) | omega) _ | refine Below.alloc ?_ (by first | exact Nat.le_refl _ | (simp; done) | (simp; omega) | omega) _)⟩, by simp [intOf]; omega⟩
          have q := BB.put hb.out (k := i) (by rw [half_len, hL.out]; exact hlt) (upB x)
          rw [half_set HAi.out, hout.out] at q
          exact q
        · have hout : Hid (upB x = x) := up_out (by omega)
          clear HU1
          have k1 : (97 : Int) ≤ (x.toNat : Int) := by omega
          have k2 : ¬ (x.toNat : Int) < 123 := by omega
          go_wp2
          exact ⟨⟨i + 1, by go_num, by omega, (by rw [half_same HAi.out hout.out]; exact hb), by with_reducible (repeat' first | assumption | exact Below.refl _ _ | refine Below.drew ?_ | refine bdrewN ?_ _ | refine Below.setCell ?_ (by first | exact Nat.le_refl _ | (simp; done) | (simp; omega) | omega) _ | refine Below.alloc ?_ (by first | exact Nat.le_refl _ | (simp; done) | (simp; omega) | omega) _)⟩, by simp [intOf]; omega⟩
      · have hout : Hid (upB x = x) := up_out (by omega)
        clear HU1
        have k1 : ¬ (97 : Int) ≤ (x.toNat : Int) := by omega
        go_wp2
        exact ⟨⟨i + 1, by go_num, by omega, (by rw [half_same HAi.out hout.out]; exact hb), by with_reducible (repeat' first | assumption | exact Below.refl _ _ | refine Below.drew ?_ | refine bdrewN ?_ _ | refine Below.setCell ?_ (by first | exact Nat.le_refl _ | (simp; done) | (simp; omega) | omega) _ | refine Below.alloc ?_ (by first | exact Nat.le_refl _ | (simp; done) | (simp; omega) | omega) _)⟩, by simp [intOf]; omega⟩
    · have hlt' : ¬ (i : Int) < n := by omega
      have hq := hb.out
      rw [half_all _ _ (by rw [hL.out]; omega)] at hq
      have hcb := bb_back hq n cap (by rw [List.length_map, hL.out])
      go_wp2
      go_ret
      exact ⟨by first | rfl | (rw [hle]; rfl) | (subst hle; rfl), by with_reducible (repeat' first | assumption | exact Below.refl _ _ | refine Below.drew ?_ | refine bdrewN ?_ _ | refine Below.setCell ?_ (by first | exact Nat.le_refl _ | (simp; done) | (simp; omega) | omega) _ | refine Below.alloc ?_ (by first | exact Nat.le_refl _ | (simp; done) | (simp; omega) | omega) _)⟩
theorem lo_in {x : UInt8} (h1 : 65 ≤ x.toNat) (h2 : x.toNat < 91) : ((loB x).toNat : Int) = (x.toNat : Int) - 65 + 97 := by
  unfold loB
  rw [if_pos ⟨h1, h2⟩, UInt8.toNat_ofNat']
  omega
theorem lo_out {x : UInt8} (h : ¬ (65 ≤ x.toNat ∧ x.toNat < 91)) : loB x = x := by unfold loB; rw [if_neg h]
set_option maxRecDepth 100000 in
set_option maxHeartbeats 1000000 in
theorem rc_lo (s : ByteArray) (w : World) (hs : s.size ≤ 9223372036854775807) : Calls Tryz.prog 95 #[.string s, .int .u8 65, .int .u8 97] w fun e w' => e = .returned (.string ⟨(s.data.toList.map loB).toArray⟩) ∧ Below w.heap.size w w' := by
  have mixed : Tryz.prog.follows .mixedOrders = true := by kernel_rfl
  have hcv := fun w => run_bytes_of_string (P := Tryz.prog) w 9 73 5 s Tryz.underlying9 Tryz.underlying73 Tryz.underlying5
  go_enter Tryz.func95, Tryz.ntmps95
  go_wp2
  clear hcv
  generalize grownCap w s.size 0 5 = cap
  obtain ⟨w0, hw0⟩ : ∃ w0, (w.alloc (.cells (bytesRow s cap) 5 ((bytesRow s cap).size, (bytesRow s cap).size + 1))).drew = w0 := ⟨_, rfl⟩
  have hbb : BB w0 w.heap.size s.data.toList := by rw [← hw0]; exact bb_new w s cap _
  have hB0 : Below w.heap.size w w0 := by rw [← hw0]; exact ((Below.refl _ _).alloc (Nat.le_refl _) _).drew
  rw [hw0]
  clear hw0
  have hL : Hid (s.data.toList.length = s.size) := (show s.data.toList.length = s.data.size from Array.length_toList)
  generalize hle : s.data.toList = l at *
  generalize s.size = n at *
  go_loopw [14] (fun v w' => ∃ i : Nat, v = .int .i64 i ∧ i ≤ n ∧ Hid (BB w' w.heap.size (half loB l i)) ∧ Below w.heap.size w w') (fun v _ => n - (intOf v).toNat)
  case atStart => exact ⟨0, rfl, by omega, (show BB _ _ _ from by unfold half; simpa using hbb), hB0⟩
  case round =>
    obtain ⟨i, rfl, hii, hb, hB⟩ := hrel
    have zz := hb.out.1
    by_cases hlt : i < n
    · have hlt' : (i : Int) < n := by omega
      have hai : l[i]? = some (l[i]'(by rw [hL.out]; exact hlt)) := List.getElem?_eq_getElem _
      have HAi : Hid _ := hai
      revert HAi
      generalize (l[i]'(by rw [hL.out]; exact hlt)) = x
      intro HAi
      clear hai
      have hq := hb.out.2 i x (by rw [half_at (by rw [hL.out]; exact hlt)]; exact HAi.out)
      obtain ⟨c0, f0⟩ := hq
      have h256 : x.toNat < 256 := x.toNat_lt
      have HU1 : 65 ≤ x.toNat → x.toNat < 91 → ((loB x).toNat : Int) = (x.toNat : Int) - 65 + 97 := lo_in
      by_cases g1 : 65 ≤ x.toNat
      · by_cases g2 : x.toNat < 91
        · have hout : Hid (((loB x).toNat : Int) = (x.toNat : Int) - 65 + 97) := HU1 g1 g2
          clear HU1
          have k1 : (65 : Int) ≤ (x.toNat : Int) := by omega
          have k2 : (x.toNat : Int) < 91 := by omega
          have u1 : IntKind.u8.wrap ((x.toNat : Int) - 65) = (x.toNat : Int) - 65 := by rw [wrapU8]; omega
          have u2 : IntKind.u8.wrap ((x.toNat : Int) - 65 + 97) = (x.toNat : Int) - 65 + 97 := by rw [wrapU8]; omega
          have u3 : ((x.toNat : Int) - 65) % 256 = (x.toNat : Int) - 65 := by omega
          have u4 : ((x.toNat : Int) - 65 + 97) % 256 = (x.toNat : Int) - 65 + 97 := by omega
          go_wp2
          refine ⟨⟨i + 1, by go_num, by omega, ?_, by with_reducible (repeat' first | assumption | exact Below.refl _ _ | refine Below.drew ?_ | refine bdrewN ?_ _ | refine Below.setCell ?_ (by first | exact Nat.le_refl _ | (simp; done) | (simp; omega) | omega) _ | refine Below.alloc ?_ (by first | exact Nat.le_refl _ | (simp; done) | (simp; omega) | omega) _)⟩, by simp [intOf]; omega⟩
          have q := BB.put hb.out (k := i) (by rw [half_len, hL.out]; exact hlt) (loB x)
          rw [half_set HAi.out, hout.out] at q
          exact q
        · have hout : Hid (loB x = x) := lo_out (by omega)
          clear HU1
          have k1 : (65 : Int) ≤ (x.toNat : Int) := by omega
          have k2 : ¬ (x.toNat : Int) < 91 := by omega
          go_wp2
          exact ⟨⟨i + 1, by go_num, by omega, (by rw [half_same HAi.out hout.out]; exact hb), by with_reducible (repeat' first | assumption | exact Below.refl _ _ | refine Below.drew ?_ | refine bdrewN ?_ _ | refine Below.setCell ?_ (by first | exact Nat.le_refl _ | (simp; done) | (simp; omega) | omega) _ | refine Below.alloc ?_ (by first | exact Nat.le_refl _ | (simp; done) | (simp; omega) | omega) _)⟩, by simp [intOf]; omega⟩
      · have hout : Hid (loB x = x) := lo_out (by omega)
        clear HU1
        have k1 : ¬ (65 : Int) ≤ (x.toNat : Int) := by omega
        go_wp2
        exact ⟨⟨i + 1, by go_num, by omega, (by rw [half_same HAi.out hout.out]; exact hb), by with_reducible (repeat' first | assumption | exact Below.refl _ _ | refine Below.drew ?_ | refine bdrewN ?_ _ | refine Below.setCell ?_ (by first | exact Nat.le_refl _ | (simp; done) | (simp; omega) | omega) _ | refine Below.alloc ?_ (by first | exact Nat.le_refl _ | (simp; done) | (simp; omega) | omega) _)⟩, by simp [intOf]; omega⟩
    · have hlt' : ¬ (i : Int) < n := by omega
      have hq := hb.out
      rw [half_all _ _ (by rw [hL.out]; omega)] at hq
      have hcb := bb_back hq n cap (by rw [List.length_map, hL.out])
      go_wp2
      go_ret
      exact ⟨by first | rfl | (rw [hle]; rfl) | (subst hle; rfl), by with_reducible (repeat' first | assumption | exact Below.refl _ _ | refine Below.drew ?_ | refine bdrewN ?_ _ | refine Below.setCell ?_ (by first | exact Nat.le_refl _ | (simp; done) | (simp; omega) | omega) _ | refine Below.alloc ?_ (by first | exact Nat.le_refl _ | (simp; done) | (simp; omega) | omega) _)⟩
set_option maxRecDepth 100000 in
theorem up_any (g tc : Nat) (np : Option Addr) (nn nc : Nat) (x : Int) (s : ByteArray) (w : World) (hg : g < w.heap.size) (x0 : w.cell? ⟨g, 0, none⟩ = some (.string s)) (hx : x ≤ 1024) (hs : s.size ≤ 9223372036854775807) : Calls Tryz.prog 65 #[.agg #[.slice (some ⟨g, 0, none⟩) 1 tc, .slice np nn nc, .int .i64 x]] w fun e w' => e = .returned (.agg #[.int .i64 (toT ((⟨(s.data.toList.map upB).toArray⟩ : ByteArray)) x), .int .i64 (0), .string (toS ((⟨(s.data.toList.map upB).toArray⟩ : ByteArray)) x), .bool false, .int .i64 (toC ((⟨(s.data.toList.map upB).toArray⟩ : ByteArray)) x)]) ∧ Below w.heap.size w w' := by
  have HRc : Hid _ := fun W : World => rc_up s W hs
  generalize (⟨(s.data.toList.map upB).toArray⟩ : ByteArray) = r at *
  have mixed : Tryz.prog.follows .mixedOrders = true := by kernel_rfl
  have hne : ¬ g = w.heap.size := by omega
  have hne1 : ¬ g = w.heap.size + 1 := by omega
  go_enter Tryz.func65, Tryz.ntmps65
  go_wp2
  go_region_held3 (fun w' => w'.cell? ⟨w.heap.size, 0, none⟩ = some (.slice (some ⟨g, 0, none⟩) 1 tc) ∧ w'.cell? ⟨w.heap.size, 1, none⟩ = some (.slice np nn nc) ∧ w'.cell? ⟨w.heap.size, 2, none⟩ = some (.int .i64 x) ∧ w'.cell? ⟨g, 0, none⟩ = some (.string s)) ((repeat' apply And.intro) <;> (first | (go_keep; done) | (go_simp; done))) ((first | (go_at_call 95; refine (HRc.out _).mono ?_; rintro e wa ⟨rfl, hbwa⟩; have hBwa : Below w.heap.size w wa := bup (by with_reducible (repeat' first | assumption | exact Below.refl _ _ | refine Below.drew ?_ | refine bdrewN ?_ _ | refine Below.setCell ?_ (by first | exact Nat.le_refl _ | (simp; done) | (simp; omega) | omega) _ | refine Below.alloc ?_ (by first | exact Nat.le_refl _ | (simp; done) | (simp; omega) | omega) _)) hbwa; have zwa := hBwa.size; have o0wa : Own wa (w.heap.size) #[.slice (some ⟨g, 0, none⟩) 1 tc, .slice np nn nc, .int .i64 x] := Own.keep (by with_reducible (repeat' first | assumption | refine Own.drew ?_ | refine Own.drewN ?_ _ | (refine Own.at ?_; first | rfl | (simp; done)) | refine Own.past ?_ _)) hbwa; have c0 := o0wa.cell; have f0 := o0wa.fro; have l0 := o0wa.lt; have o1wa : Own wa (w.heap.size + 1) #[.int .i64 0, .int .i64 0, .string ⟨#[]⟩, .bool false, .int .i64 0] := Own.keep (by with_reducible (repeat' first | assumption | refine Own.drew ?_ | refine Own.drewN ?_ _ | (refine Own.at ?_; first | rfl | (simp; done)) | refine Own.past ?_ _)) hbwa; have c1 := o1wa.cell; have f1 := o1wa.fro; have l1 := o1wa.lt; have x0wa := (hBwa.cell (p := ⟨g, 0, none⟩) hg).trans x0) | (go_at_call 93; refine (ans_any _ _ _ _ _ _ _ _ _ hx).mono ?_; rintro e wc ⟨rfl, hbwc⟩; have hBwc : Below w.heap.size w wc := bup (by with_reducible (repeat' first | assumption | exact Below.refl _ _ | refine Below.drew ?_ | refine bdrewN ?_ _ | refine Below.setCell ?_ (by first | exact Nat.le_refl _ | (simp; done) | (simp; omega) | omega) _ | refine Below.alloc ?_ (by first | exact Nat.le_refl _ | (simp; done) | (simp; omega) | omega) _)) hbwc; have zwc := hBwc.size; have o0wc : Own wc (w.heap.size) #[.slice (some ⟨g, 0, none⟩) 1 tc, .slice np nn nc, .int .i64 x] := Own.keep (by with_reducible (repeat' first | assumption | refine Own.drew ?_ | refine Own.drewN ?_ _ | (refine Own.at ?_; first | rfl | (simp; done)) | refine Own.past ?_ _)) hbwc; have c0 := o0wc.cell; have f0 := o0wc.fro; have l0 := o0wc.lt; have o1wc : Own wc (w.heap.size + 1) #[.int .i64 0, .int .i64 0, .string ⟨#[]⟩, .bool false, .int .i64 0] := Own.keep (by with_reducible (repeat' first | assumption | refine Own.drew ?_ | refine Own.drewN ?_ _ | (refine Own.at ?_; first | rfl | (simp; done)) | refine Own.past ?_ _)) hbwc; have c1 := o1wc.cell; have f1 := o1wc.fro; have l1 := o1wc.lt; have x0wc := (hBwc.cell (p := ⟨g, 0, none⟩) hg).trans x0)))
  go_wp2
  exact bodyPost_ret (v := (.agg #[.int .i64 (toT (r) x), .int .i64 (0), .string (toS (r) x), .bool false, .int .i64 (toC (r) x)])) (by simp [results, Tryz.results65, go_sem, c1, f1, l1]) rfl ⟨rfl, by with_reducible (repeat' first | assumption | exact Below.refl _ _ | refine Below.drew ?_ | refine bdrewN ?_ _ | refine Below.setCell ?_ (by first | exact Nat.le_refl _ | (simp; done) | (simp; omega) | omega) _ | refine Below.alloc ?_ (by first | exact Nat.le_refl _ | (simp; done) | (simp; omega) | omega) _)⟩
set_option maxRecDepth 100000 in
theorem lo_any (g tc : Nat) (np : Option Addr) (nn nc : Nat) (x : Int) (s : ByteArray) (w : World) (hg : g < w.heap.size) (x0 : w.cell? ⟨g, 0, none⟩ = some (.string s)) (hx : x ≤ 1024) (hs : s.size ≤ 9223372036854775807) : Calls Tryz.prog 66 #[.agg #[.slice (some ⟨g, 0, none⟩) 1 tc, .slice np nn nc, .int .i64 x]] w fun e w' => e = .returned (.agg #[.int .i64 (toT ((⟨(s.data.toList.map loB).toArray⟩ : ByteArray)) x), .int .i64 (0), .string (toS ((⟨(s.data.toList.map loB).toArray⟩ : ByteArray)) x), .bool false, .int .i64 (toC ((⟨(s.data.toList.map loB).toArray⟩ : ByteArray)) x)]) ∧ Below w.heap.size w w' := by
  have HRc : Hid _ := fun W : World => rc_lo s W hs
  generalize (⟨(s.data.toList.map loB).toArray⟩ : ByteArray) = r at *
  have mixed : Tryz.prog.follows .mixedOrders = true := by kernel_rfl
  have hne : ¬ g = w.heap.size := by omega
  have hne1 : ¬ g = w.heap.size + 1 := by omega
  go_enter Tryz.func66, Tryz.ntmps66
  go_wp2
  go_region_held3 (fun w' => w'.cell? ⟨w.heap.size, 0, none⟩ = some (.slice (some ⟨g, 0, none⟩) 1 tc) ∧ w'.cell? ⟨w.heap.size, 1, none⟩ = some (.slice np nn nc) ∧ w'.cell? ⟨w.heap.size, 2, none⟩ = some (.int .i64 x) ∧ w'.cell? ⟨g, 0, none⟩ = some (.string s)) ((repeat' apply And.intro) <;> (first | (go_keep; done) | (go_simp; done))) ((first | (go_at_call 95; refine (HRc.out _).mono ?_; rintro e wa ⟨rfl, hbwa⟩; have hBwa : Below w.heap.size w wa := bup (by with_reducible (repeat' first | assumption | exact Below.refl _ _ | refine Below.drew ?_ | refine bdrewN ?_ _ | refine Below.setCell ?_ (by first | exact Nat.le_refl _ | (simp; done) | (simp; omega) | omega) _ | refine Below.alloc ?_ (by first | exact Nat.le_refl _ | (simp; done) | (simp; omega) | omega) _)) hbwa; have zwa := hBwa.size; have o0wa : Own wa (w.heap.size) #[.slice (some ⟨g, 0, none⟩) 1 tc, .slice np nn nc, .int .i64 x] := Own.keep (by with_reducible (repeat' first | assumption | refine Own.drew ?_ | refine Own.drewN ?_ _ | (refine Own.at ?_; first | rfl | (simp; done)) | refine Own.past ?_ _)) hbwa; have c0 := o0wa.cell; have f0 := o0wa.fro; have l0 := o0wa.lt; have o1wa : Own wa (w.heap.size + 1) #[.int .i64 0, .int .i64 0, .string ⟨#[]⟩, .bool false, .int .i64 0] := Own.keep (by with_reducible (repeat' first | assumption | refine Own.drew ?_ | refine Own.drewN ?_ _ | (refine Own.at ?_; first | rfl | (simp; done)) | refine Own.past ?_ _)) hbwa; have c1 := o1wa.cell; have f1 := o1wa.fro; have l1 := o1wa.lt; have x0wa := (hBwa.cell (p := ⟨g, 0, none⟩) hg).trans x0) | (go_at_call 93; refine (ans_any _ _ _ _ _ _ _ _ _ hx).mono ?_; rintro e wc ⟨rfl, hbwc⟩; have hBwc : Below w.heap.size w wc := bup (by with_reducible (repeat' first | assumption | exact Below.refl _ _ | refine Below.drew ?_ | refine bdrewN ?_ _ | refine Below.setCell ?_ (by first | exact Nat.le_refl _ | (simp; done) | (simp; omega) | omega) _ | refine Below.alloc ?_ (by first | exact Nat.le_refl _ | (simp; done) | (simp; omega) | omega) _)) hbwc; have zwc := hBwc.size; have o0wc : Own wc (w.heap.size) #[.slice (some ⟨g, 0, none⟩) 1 tc, .slice np nn nc, .int .i64 x] := Own.keep (by with_reducible (repeat' first | assumption | refine Own.drew ?_ | refine Own.drewN ?_ _ | (refine Own.at ?_; first | rfl | (simp; done)) | refine Own.past ?_ _)) hbwc; have c0 := o0wc.cell; have f0 := o0wc.fro; have l0 := o0wc.lt; have o1wc : Own wc (w.heap.size + 1) #[.int .i64 0, .int .i64 0, .string ⟨#[]⟩, .bool false, .int .i64 0] := Own.keep (by with_reducible (repeat' first | assumption | refine Own.drew ?_ | refine Own.drewN ?_ _ | (refine Own.at ?_; first | rfl | (simp; done)) | refine Own.past ?_ _)) hbwc; have c1 := o1wc.cell; have f1 := o1wc.fro; have l1 := o1wc.lt; have x0wc := (hBwc.cell (p := ⟨g, 0, none⟩) hg).trans x0)))
  go_wp2
  exact bodyPost_ret (v := (.agg #[.int .i64 (toT (r) x), .int .i64 (0), .string (toS (r) x), .bool false, .int .i64 (toC (r) x)])) (by simp [results, Tryz.results66, go_sem, c1, f1, l1]) rfl ⟨rfl, by with_reducible (repeat' first | assumption | exact Below.refl _ _ | refine Below.drew ?_ | refine bdrewN ?_ _ | refine Below.setCell ?_ (by first | exact Nat.le_refl _ | (simp; done) | (simp; omega) | omega) _ | refine Below.alloc ?_ (by first | exact Nat.le_refl _ | (simp; done) | (simp; omega) | omega) _)⟩
end Go.Proofs.YtdcfnfapdceenaaGreatDoor
