/- The document's tables of functions: the contracts of Known and Takes over a slice of funct -/
import Derived.Test.YtcmjhjnpcogmgaaGreatDoorUAuto
import Derived.Test.YtcmjhjnpcogmgaaGreatDoorUPOPO2
set_option linter.all false
set_option maxRecDepth 100000
set_option maxHeartbeats 4000000
namespace Go.Proofs.YtcmjhjnpcogmgaaGreatDoor
open Go.Shelf Go.RowKit
structure Fu where
 name : ByteArray
 least : Int
 most : Int
 kinds : ByteArray
def Fu.cells (x : Fu) : Array Value := #[.string x.name, .int .i64 x.least, .int .i64 x.most, .string x.kinds]
abbrev FV (w : World) (v : Value) (l : List Fu) : Prop := Rf.View Fu.cells 4 w v l
def knownB (l : List Fu) (s : ByteArray) : Bool := l.any (fun x => x.name.toList == s.toList)
theorem known_y (w : World) (b o cap n : Nat) (l : List Fu) (s : ByteArray) (hlb : b < w.heap.size) (HC : ∀ i x, l[i]? = some x → ∀ j, j < 4 → w.cell? ⟨b, o + i * 4 + j, none⟩ = (Fu.cells x)[j]?) (hn : l.length = n) (h0 : 0 < n) (hl : n ≤ 140737488355328) :
  Calls Tryz.prog 142 #[.slice (some ⟨b, o, none⟩) n cap, .string s] w fun e w' => e = .returned (.bool (knownB l s)) ∧ Below w.heap.size w w' := by
 have HC' : Hid _ := HC
 have HN : Hid (l.length = n) := hn
 clear HC hn
 go_enter Tryz.func142, Tryz.ntmps142
 go_wp2
 go_loop [5] (fun v => ∃ i : Nat, v = .int .i64 i ∧ i ≤ n ∧ Hid ((l.take i).any (fun x => x.name.toList == s.toList) = false)) (fun v => n - (intOf v).toNat)
 case atStart => exact ⟨0, rfl, zq17, rfl⟩
 case round =>
  obtain ⟨i, rfl, hi, htk⟩ := hrel
  by_cases hlt : i < n
  ·have hlt' : (i : Int) < n := by omega
   have hti : l[i]? = some (l[i]'(by rw [HN.out]; exact hlt)) := List.getElem?_eq_getElem _
   have cx := fun j hj => HC'.out i _ hti j hj
   have HTI : Hid _ := hti
   revert cx HTI
   generalize (l[i]'(by rw [HN.out]; exact hlt)) = x
   intro cx HTI
   clear hti
   have x0 : w.cell? ⟨b, o + i * 4, none⟩ = some (.string x.name) := cx 0 zq16
   clear cx
   cases hs : (x.name.toList == s.toList)
   ·have HT : Hid ((l.take (i + 1)).any (fun x => x.name.toList == s.toList) = false) := by show _ = _; rw [List.take_add_one, HTI.out, List.any_append, htk.out]; simp only [Option.toList, List.any_cons, List.any_nil, Bool.or_false, Bool.false_or]; exact hs
    have hs' : ¬ (x.name.toList = s.toList) := by simpa using hs
    go_wp2
    exact ⟨⟨i + 1, by go_num, zq17, HT⟩, by simp [intOf]; omega⟩
   ·have HT : Hid (knownB l s = true) := by show _ = _; unfold knownB; exact List.any_eq_true.2 ⟨x, List.mem_of_getElem? HTI.out, hs⟩
    have hs' : x.name.toList = s.toList := by simpa using hs
    go_wp2
    go_ret
    exact ⟨retB HT.out.symm, Below.refl _ _⟩
  ·have hlt' : ¬ (i : Int) < n := by omega
   have HT : Hid (knownB l s = false) := by show _ = _; unfold knownB; have h := htk.out; rwa [List.take_of_length_le (by rw [HN.out]; omega)] at h
   go_wp2
   go_ret
   exact ⟨retB HT.out.symm, Below.refl _ _⟩
theorem known_e (w : World) (p : Option Addr) (cap : Nat) (s : ByteArray) : Calls Tryz.prog 142 #[.slice p 0 cap, .string s] w fun e w' => e = .returned (.bool false) ∧ Below w.heap.size w w' := by
 go_enter Tryz.func142, Tryz.ntmps142
 go_wp2
 go_loop [5] (fun v => v = .int .i64 0) (fun v => 0)
 case atStart => rfl
 case round =>
  obtain rfl := hrel
  go_wp2
  go_ret
  exact ⟨rfl, Below.refl _ _⟩
theorem knownF_any (w : World) (v : Value) (l : List Fu) (s : ByteArray) (hv : FV w v l) (hl : l.length ≤ 140737488355328) : Calls Tryz.prog 142 #[v, .string s] w fun e w' => e = .returned (.bool (knownB l s)) ∧ Below w.heap.size w w' := by
 obtain ⟨p, cap, rfl, hc, hf⟩ := hv
 by_cases h0 : 0 < l.length
 ·obtain ⟨b, o, rfl, hlt, HC⟩ := hf h0
  exact known_y w b o cap l.length l s hlt HC rfl h0 hl
 ·obtain rfl : l = [] := List.length_eq_zero_iff.1 zq17
  exact known_e w p cap s
end Go.Proofs.YtcmjhjnpcogmgaaGreatDoor
namespace Go.Proofs.YtcmjhjnpcogmgaaGreatDoor
open Go.Shelf Go.RowKit
def kindF (f : Fu) (k : Nat) : UInt8 := if f.kinds.size = 0 then 118 else (f.kinds.data.toList[min k (f.kinds.size - 1)]?).getD 0
def okF (f : Fu) (k : Nat) (b : Bool) : Bool := kindF f k == 120 || (b == (kindF f k == 114))
def okFrom (f : Fu) : Nat → List Bool → Bool
 | _, [] => true
 | k, b :: r => okF f k b && okFrom f (k + 1) r
def takF (f : Fu) (rl : List Bool) : Bool := okFrom f 0 rl && (decide (f.least ≤ (rl.length : Int)) && decide ((rl.length : Int) ≤ f.most))
def takesB (l : List Fu) (s : ByteArray) (rl : List Bool) : Bool := match l.find? (fun x => x.name.toList == s.toList) with
 | none => false
 | some f => takF f rl
theorem okFrom_snoc (f : Fu) : ∀ (l : List Bool) (k : Nat) (b : Bool), okFrom f k (l ++ [b]) = (okFrom f k l && okF f (k + l.length) b)
 | [], k, b => by simp [okFrom]
 | a :: l, k, b => by
  have e : k + (a :: l).length = k + 1 + l.length := by simp; omega
  simp only [List.cons_append, okFrom]
  rw [okFrom_snoc f l (k + 1) b, e, Bool.and_assoc]
theorem okFrom_pre (f : Fu) : ∀ (l m : List Bool) (k : Nat), okFrom f k l = false → okFrom f k (l ++ m) = false
 | [], m, k, h => by simp [okFrom] at h
 | a :: l, m, k, h => by
  simp only [List.cons_append, okFrom, Bool.and_eq_false_iff] at h ⊢
  rcases h with h | h
  ·exact .inl h
  ·exact .inr (okFrom_pre f l m (k + 1) h)
theorem find_more {l : List Fu} {s : ByteArray} {i : Nat} {x : Fu} (h : (l.take i).find? (fun x => x.name.toList == s.toList) = none) (hx : l[i]? = some x) (hs : (x.name.toList == s.toList) = false) : (l.take (i + 1)).find? (fun x => x.name.toList == s.toList) = none := by
 rw [List.take_add_one, hx, List.find?_append, h]
 simp [hs]
theorem find_here {l : List Fu} {s : ByteArray} {i : Nat} {x : Fu} (h : (l.take i).find? (fun x => x.name.toList == s.toList) = none) (hx : l[i]? = some x) (hs : (x.name.toList == s.toList) = true) : l.find? (fun x => x.name.toList == s.toList) = some x := by
 obtain ⟨hlt, he⟩ := List.getElem?_eq_some_iff.1 hx
 have e : l = l.take i ++ (x :: l.drop (i + 1)) := by
  rw [← he, ← List.drop_eq_getElem_cons hlt, List.take_append_drop]
 rw [e, List.find?_append, h]
 simp [hs]
theorem kind_at {f : Fu} {k : Nat} (h : f.kinds.size ≠ 0) (hl : min k (f.kinds.size - 1) < f.kinds.data.toList.length) : kindF f k = f.kinds.data.toList[min k (f.kinds.size - 1)] := by
 unfold kindF; rw [if_neg h, List.getElem?_eq_getElem hl]; rfl
theorem takes_y (w : World) (b o cap n : Nat) (l : List Fu) (s : ByteArray) (rp : Option Addr) (rcap m : Nat) (rl : List Bool) (hlb : b < w.heap.size) (HC : ∀ i x, l[i]? = some x → ∀ j, j < 4 → w.cell? ⟨b, o + i * 4 + j, none⟩ = (Fu.cells x)[j]?) (hn : l.length = n) (h0 : 0 < n) (hl : n ≤ 140737488355328)
  (hz : ∀ x ∈ l, x.kinds.size ≤ 281474976710656) (hm : rl.length = m) (hmc : m ≤ rcap) (hm2 : m ≤ 1000) (HR : ∀ k x, rl[k]? = some x → ∃ rb, rp = some ⟨rb, 0, none⟩ ∧ rb < w.heap.size ∧ w.cell? ⟨rb, k, none⟩ = some (.bool x)) :
  Calls Tryz.prog 143 #[.slice (some ⟨b, o, none⟩) n cap, .string s, .slice rp m rcap] w fun e w' => e = .returned (.bool (takesB l s rl)) ∧ Below w.heap.size w w' := by
 have HC' : Hid _ := HC
 have HN : Hid (l.length = n) := hn
 have HZ : Hid _ := hz
 have HM : Hid (rl.length = m) := hm
 have HR' : Hid _ := HR
 clear HC hn hm HR hz
 go_enter Tryz.func143, Tryz.ntmps143
 go_wp2
 go_loopw [7] (fun v wr => ∃ i : Nat, v = .int .i64 i ∧ i ≤ n ∧ Below w.heap.size w wr ∧ Hid ((l.take i).find? (fun x => x.name.toList == s.toList) = none)) (fun v _ => n - (intOf v).toNat)
 case atStart => exact ⟨0, rfl, zq17, Below.refl _ _, rfl⟩
 case round =>
  obtain ⟨i, rfl, hi, hB, htk⟩ := hrel
  by_cases hlt : i < n
  ·have hlt' : (i : Int) < n := by omega
   have hti : l[i]? = some (l[i]'(by rw [HN.out]; exact hlt)) := List.getElem?_eq_getElem _
   have cx := fun j hj => HC'.out i _ hti j hj
   have HTI : Hid _ := hti
   revert cx HTI
   generalize (l[i]'(by rw [HN.out]; exact hlt)) = x
   intro cx HTI
   clear hti
   have x0 : wr.cell? ⟨b, o + i * 4, none⟩ = some (.string x.name) := (hB.cell (p := ⟨b, o + i * 4, none⟩) hlb).trans (cx 0 zq16)
   have x1 : wr.cell? ⟨b, o + i * 4 + 1, none⟩ = some (.int .i64 x.least) := (hB.cell (p := ⟨b, o + i * 4 + 1, none⟩) hlb).trans (cx 1 zq16)
   have x2 : wr.cell? ⟨b, o + i * 4 + 2, none⟩ = some (.int .i64 x.most) := (hB.cell (p := ⟨b, o + i * 4 + 2, none⟩) hlb).trans (cx 2 zq16)
   have x3 : wr.cell? ⟨b, o + i * 4 + 3, none⟩ = some (.string x.kinds) := (hB.cell (p := ⟨b, o + i * 4 + 3, none⟩) hlb).trans (cx 3 zq16)
   clear cx
   have hBz := hB.size
   cases hs : (x.name.toList == s.toList)
   ·have HT : Hid ((l.take (i + 1)).find? (fun x => x.name.toList == s.toList) = none) := find_more htk.out HTI.out hs
    have hs' : ¬ (x.name.toList = s.toList) := by simpa using hs
    go_wp2
    exact ⟨⟨i + 1, by go_num, zq17, zq1, HT⟩, by simp [intOf]; omega⟩
   ·have HF : Hid (takesB l s rl = takF x rl) := by show _ = _; unfold takesB; rw [find_here htk.out HTI.out hs]
    have hs' : x.name.toList = s.toList := by simpa using hs
    go_wp2
    go_loop [9] (fun v => ∃ k : Nat, v = .int .i64 k ∧ k ≤ m ∧ Hid (okFrom x 0 (rl.take k) = true)) (fun v => m - (intOf v).toNat)
    case atStart => exact ⟨0, rfl, zq17, rfl⟩
    case round =>
     obtain ⟨k, rfl, hk, hok⟩ := hrel
     by_cases hkm : k < m
     ·have hkm' : (k : Int) < m := by omega
      have htr : rl[k]? = some (rl[k]'(by rw [HM.out]; exact hkm)) := List.getElem?_eq_getElem _
      obtain ⟨rb, hrp, hrb, hrc⟩ := HR'.out k _ htr
      have HTR : Hid _ := htr
      revert hrc HTR
      generalize (rl[k]'(by rw [HM.out]; exact hkm)) = y
      intro hrc HTR
      clear htr
      subst hrp
      have hrw : wr.cell? ⟨rb, k, none⟩ = some (.bool y) := (hB.cell (p := ⟨rb, k, none⟩) hrb).trans hrc
      have hon : okFrom x 0 (rl.take (k + 1)) = okF x k y := by
       rw [List.take_add_one, HTR.out]
       show okFrom x 0 (rl.take k ++ [y]) = _
       rw [okFrom_snoc, hok.out]
       have e : 0 + (rl.take k).length = k := by rw [List.length_take, HM.out]; omega
       rw [e]; rfl
      have HON : Hid _ := hon
      clear hon
      have hrw2 : ∀ q, (wr.alloc q).cell? ⟨rb, k, none⟩ = some (.bool y) := fun q => (World.cell?_of_block (Below.heap_alloc wr _ _ (by show rb < _; omega))).trans hrw
      by_cases hks : x.kinds.size = 0
      ·have hke : (x.kinds.toList == []) = true := by
        have : x.kinds.toList = [] := by rw [toL]; exact List.eq_nil_of_length_eq_zero (by rw [← size_len]; exact hks)
        rw [this]; rfl
       have hke' : x.kinds.toList = [] := by simpa using hke
       have hkf : kindF x k = 118 := by unfold kindF; rw [if_pos hks]
       have HKF : Hid _ := hkf
       clear hkf
       cases y
       ·have HO2 : Hid (okFrom x 0 (rl.take (k + 1)) = true) := by show _ = _; rw [HON.out]; unfold okF; rw [HKF.out]; rfl
        go_wp2
        exact ⟨⟨k + 1, by go_num, zq17, HO2⟩, by simp [intOf]; omega⟩
       ·have HO2 : Hid (takesB l s rl = false) := by
         show _ = _
         rw [HF.out]; unfold takF
         have : okFrom x 0 rl = false := by
          rw [← List.take_append_drop (k + 1) rl]
          refine okFrom_pre x _ _ _ ?_
          rw [HON.out]; unfold okF; rw [HKF.out]; rfl
         rw [this]; rfl
        go_wp2
        go_ret
        exact ⟨retB HO2.out.symm, zq1⟩
      ·have hke : (x.kinds.toList == []) = false := by
        cases h : (x.kinds.toList == [])
        ·rfl
        ·have : x.kinds.toList = [] := by simpa using h
         rw [toL] at this
         exact absurd (by rw [size_len, this]; rfl) hks
       have hke' : ¬ x.kinds.toList = [] := by simpa using hke
       obtain ⟨j, hj⟩ : ∃ j, min k (x.kinds.size - 1) = j := ⟨_, rfl⟩
       have hjl : j < x.kinds.size := by omega
       have hxz := HZ.out x (List.mem_of_getElem? HTI.out)
       have hml : min k (x.kinds.size - 1) < x.kinds.data.toList.length := by rw [← size_len]; omega
       have hkf : kindF x k = x.kinds[j] := by
        rw [kind_at (k := k) hks hml]
        have : x.kinds.data.toList[min k (x.kinds.size - 1)] = x.kinds.data[j] := by simp [hj]
        rw [this]; rfl
       have hmin : ∀ z : Int, z = (x.kinds.size : Int) → min (k : Int) (wrap64 (z - 1)) = (j : Int) := fun z hz => by subst hz; unfold wrap64; omega
       have hmi := hmin _ rfl
       clear hmin hml hj hxz
       have HKF : Hid _ := hkf
       clear hkf
       revert HKF
       generalize hcc : x.kinds[j] = c
       intro HKF
       by_cases h1 : c = 120
       ·subst h1
        have HO2 : Hid (okFrom x 0 (rl.take (k + 1)) = true) := by show _ = _; rw [HON.out]; unfold okF; rw [HKF.out]; simp
        go_wp2
        exact ⟨⟨k + 1, by go_num, zq17, HO2⟩, by simp [intOf]; omega⟩
       ·have h1b : ((c.toNat : Int) == 120) = false := by simp; intro h; exact h1 (UInt8.toNat_inj.1 (show c.toNat = 120 by omega))
        have h1n : ((c.toNat : Int) != 120) = true := by simp [bne, h1b]
        by_cases h2 : c = 114
        ·subst h2
         cases y
         ·have HO2 : Hid (takesB l s rl = false) := by
           show _ = _
           rw [HF.out]; unfold takF
           have : okFrom x 0 rl = false := by
            rw [← List.take_append_drop (k + 1) rl]
            refine okFrom_pre x _ _ _ ?_
            rw [HON.out]; unfold okF; rw [HKF.out]; simp
           rw [this]; rfl
          go_wp2
          go_ret
          exact ⟨retB HO2.out.symm, zq1⟩
         ·have HO2 : Hid (okFrom x 0 (rl.take (k + 1)) = true) := by show _ = _; rw [HON.out]; unfold okF; rw [HKF.out]; simp
          go_wp2
          exact ⟨⟨k + 1, by go_num, zq17, HO2⟩, by simp [intOf]; omega⟩
        ·have h2b : ((c.toNat : Int) == 114) = false := by simp; intro h; exact h2 (UInt8.toNat_inj.1 (show c.toNat = 114 by omega))
         cases y
         ·have HO2 : Hid (okFrom x 0 (rl.take (k + 1)) = true) := by show _ = _; rw [HON.out]; unfold okF; rw [HKF.out]; simp [h1, h2]
          go_wp2
          exact ⟨⟨k + 1, by go_num, zq17, HO2⟩, by simp [intOf]; omega⟩
         ·have HO2 : Hid (takesB l s rl = false) := by
           show _ = _
           rw [HF.out]; unfold takF
           have : okFrom x 0 rl = false := by
            rw [← List.take_append_drop (k + 1) rl]
            refine okFrom_pre x _ _ _ ?_
            rw [HON.out]; unfold okF; rw [HKF.out]; simp [h1, h2]
           rw [this]; rfl
          go_wp2
          go_ret
          exact ⟨retB HO2.out.symm, zq1⟩
     ·have hkm' : ¬ (k : Int) < m := by omega
      have HO2 : Hid (okFrom x 0 rl = true) := by show _ = _; have h := hok.out; rwa [List.take_of_length_le (by rw [HM.out]; omega)] at h
      by_cases hle : x.least ≤ (m : Int)
      ·by_cases hmo : (m : Int) ≤ x.most
       ·have HT : Hid (takesB l s rl = true) := by show _ = _; rw [HF.out]; unfold takF; rw [HO2.out, HM.out]; simp [hle, hmo]
        go_wp2
        go_ret
        exact ⟨retB HT.out.symm, zq1⟩
       ·have HT : Hid (takesB l s rl = false) := by show _ = _; rw [HF.out]; unfold takF; rw [HO2.out, HM.out]; simp [hle, hmo]
        go_wp2
        go_ret
        exact ⟨retB HT.out.symm, zq1⟩
      ·have HT : Hid (takesB l s rl = false) := by show _ = _; rw [HF.out]; unfold takF; rw [HO2.out, HM.out]; simp [hle]
       go_wp2
       go_ret
       exact ⟨retB HT.out.symm, zq1⟩
  ·have hlt' : ¬ (i : Int) < n := by omega
   have HT : Hid (takesB l s rl = false) := by show _ = _; unfold takesB; have h := htk.out; rw [List.take_of_length_le (by rw [HN.out]; omega)] at h; rw [h]
   go_wp2
   go_ret
   exact ⟨retB HT.out.symm, hB⟩
theorem takes_e (w : World) (p : Option Addr) (cap : Nat) (s : ByteArray) (rv : Value) : Calls Tryz.prog 143 #[.slice p 0 cap, .string s, rv] w fun e w' => e = .returned (.bool false) ∧ Below w.heap.size w w' := by
 go_enter Tryz.func143, Tryz.ntmps143
 go_wp2
 go_loop [7] (fun v => v = .int .i64 0) (fun _ => 0)
 case atStart => rfl
 case round =>
  subst hrel
  go_wp2
  go_ret
  exact ⟨rfl, Below.refl _ _⟩
theorem takes_any (w : World) (v : Value) (l : List Fu) (s : ByteArray) (rv : Value) (rl : List Bool) (hv : FV w v l) (hl : l.length ≤ 140737488355328) (hz : ∀ x ∈ l, x.kinds.size ≤ 281474976710656) (hr : LRow w rv rl) (hm : rl.length ≤ 1000) : Calls Tryz.prog 143 #[v, .string s, rv] w fun e w' => e = .returned (.bool (takesB l s rl)) ∧ Below w.heap.size w w' := by
 obtain ⟨p, cap, rfl, hc, hx⟩ := hv
 by_cases h0 : 0 < l.length
 ·obtain ⟨b, o, rfl, hlt, hcells⟩ := hx h0
  rcases Rf.Row.two boC_size hr with ⟨rfl, rfl⟩ | ⟨g, rcap, rfl, _, hg, hrc, _, hcs, _⟩
  ·exact takes_y w b o cap _ l s none 0 0 [] hlt hcells rfl h0 hl hz rfl (Nat.le_refl _) zq17 (fun k x hk => by simp at hk)
  ·exact takes_y w b o cap _ l s (some ⟨g, 0, none⟩) rcap _ rl hlt hcells rfl h0 hl hz rfl hrc hm (fun k x hk => ⟨g, rfl, hg, by have := hcs k x hk 0 zq16; simpa [boC] using this⟩)
 ·have e : l = [] := by cases l with | nil => rfl | cons a t => simp at h0
  subst e
  exact takes_e w p cap s rv
end Go.Proofs.YtcmjhjnpcogmgaaGreatDoor
