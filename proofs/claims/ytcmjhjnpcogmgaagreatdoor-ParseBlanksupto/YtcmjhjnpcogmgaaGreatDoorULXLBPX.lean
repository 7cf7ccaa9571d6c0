/- What lex tells, in plain functions over lists of bytes: how far the first token of a text  -/
import Derived.Test.YtcmjhjnpcogmgaaGreatDoorUAuto
import Derived.Test.YtcmjhjnpcogmgaaGreatDoorUA2P3
import Derived.Test.YtcmjhjnpcogmgaaGreatDoorUDcParseWDcParseAny
import Derived.Test.YtcmjhjnpcogmgaaGreatDoorUVvSumsVvV1VvVNVvVMVvV2
import Derived.Shelf.Strings.SlTrimAscii
import Derived.Shelf.Strings.Replace
import Derived.Test.YtcmjhjnpcogmgaaGreatDoorUShelfX
import Derived.LoopTactic
import Derived.Test.YtcmjhjnpcogmgaaGreatDoorUABA1AMP1P2
import Derived.Lib.IndexLaws
import Derived.Laws.Cover1
set_option linter.all false
set_option maxRecDepth 100000
set_option maxHeartbeats 4000000
namespace Go.Proofs.YtcmjhjnpcogmgaaGreatDoor
open Go.RowKit
def DG : List UInt8 := [48, 49, 50, 51, 52, 53, 54, 55, 56, 57]
def LT : List UInt8 := [65, 66, 67, 68, 69, 70, 71, 72, 73, 74, 75, 76, 77, 78, 79, 80, 81, 82, 83, 84, 85, 86, 87, 88, 89, 90]
def NB : List UInt8 := [48, 49, 50, 51, 52, 53, 54, 55, 56, 57, 46]
def WD : List UInt8 := [65, 66, 67, 68, 69, 70, 71, 72, 73, 74, 75, 76, 77, 78, 79, 80, 81, 82, 83, 84, 85, 86, 87, 88, 89, 90, 48, 49, 50, 51, 52, 53, 54, 55, 56, 57, 95]
def SG : List UInt8 := [40, 41, 44, 43, 45, 42, 47, 37, 38, 61, 60, 62]
def bgn (l cs : List UInt8) : Bool := match l with
 | [] => false
 | c :: _ => cs.contains c
def runL (l cs : List UInt8) : Nat := (l.takeWhile (cs.contains ·)).length
def meant (l : List UInt8) : Bool := !(l.drop (runL l LT)).isEmpty && runL (l.drop (runL l LT)) DG == (l.drop (runL l LT)).length
def qrL : List UInt8 → Nat
 | [] => 0
 | [_] => 1
 | c :: d :: t => if c = 34 then (if d = 34 then 2 + qrL t else 1) else 1 + qrL (d :: t)
def frL (l : List UInt8) : Nat := if 0 ≤ Lib.indexByte l 33 then (Lib.indexByte l 33).toNat + 1 else l.length
def wrL (l : List UInt8) : Nat := if meant (l.take (runL l WD)) && bgn (l.drop (runL l WD)) [58] then runL l WD + 1 + runL (l.drop (runL l WD + 1)) WD else runL l WD
def twoL (l : List UInt8) : Bool := [60, 62].isPrefixOf l || ([60, 61].isPrefixOf l || [62, 61].isPrefixOf l)
def reachL (l : List UInt8) : Nat :=
 if l = [] then 0 else if bgn l DG then runL l NB else if bgn l [34] then 1 + qrL (l.drop 1) else if bgn l [35] then frL l else if bgn l LT then wrL l else if twoL l then 2 else 1
structure Tk where
 kind : Int
 at' : Int
 num : Int
 str : ByteArray
 c0 : Int
 c1 : Int
 r0 : Int
 r1 : Int
 r2 : Int
 r3 : Int
 code : Int
theorem keepT {W w1 : World} (t : Tk) (blk : Nat) (h : Own W blk #[.int .i64 t.kind, .int .i64 t.at', .int .i64 t.num, .string t.str, .int .i64 t.c0, .int .i64 t.c1, .int .i64 t.r0, .int .i64 t.r1, .int .i64 t.r2, .int .i64 t.r3, .int .i64 t.code]) (hb : Below W.heap.size W w1) : Own w1 blk #[.int .i64 t.kind, .int .i64 t.at', .int .i64 t.num, .string t.str, .int .i64 t.c0, .int .i64 t.c1, .int .i64 t.r0, .int .i64 t.r1, .int .i64 t.r2, .int .i64 t.r3, .int .i64 t.code] := Own.keep h hb
theorem keepN {W w1 : World} (tb : Value) (pl : Int) (nm : Tk) (vn vo vr : Value) (ct : Nat) (blk : Nat) (h : Own W blk #[tb, .int .i64 pl, .int .i64 nm.kind, .int .i64 nm.at', .int .i64 nm.num, .string nm.str, .int .i64 nm.c0, .int .i64 nm.c1, .int .i64 nm.r0, .int .i64 nm.r1, .int .i64 nm.r2, .int .i64 nm.r3, .int .i64 nm.code, vn, vo, vr, .int .i64 (ct : Nat)]) (hb : Below W.heap.size W w1) : Own w1 blk #[tb, .int .i64 pl, .int .i64 nm.kind, .int .i64 nm.at', .int .i64 nm.num, .string nm.str, .int .i64 nm.c0, .int .i64 nm.c1, .int .i64 nm.r0, .int .i64 nm.r1, .int .i64 nm.r2, .int .i64 nm.r3, .int .i64 nm.code, vn, vo, vr, .int .i64 (ct : Nat)] := Own.keep h hb
def Tk.val (t : Tk) : Value := .agg #[.int .i64 t.kind, .int .i64 t.at', .int .i64 t.num, .string t.str, .int .i64 t.c0, .int .i64 t.c1, .int .i64 t.r0, .int .i64 t.r1, .int .i64 t.r2, .int .i64 t.r3, .int .i64 t.code]
def Tk.cells (t : Tk) : Array Value := #[.int .i64 t.kind, .int .i64 t.at', .int .i64 t.num, .string t.str, .int .i64 t.c0, .int .i64 t.c1, .int .i64 t.r0, .int .i64 t.r1, .int .i64 t.r2, .int .i64 t.r3, .int .i64 t.code]
def tk0 (k : Int) : Tk := ⟨k, 0, 0, ⟨#[]⟩, 0, 0, 0, 0, 0, 0, 0⟩
def bs (l : List UInt8) : ByteArray := ⟨l.toArray⟩
def tkNum (x : Int) : Tk := ⟨1, 0, x, ⟨#[]⟩, 0, 0, 0, 0, 0, 0, 0⟩
def tkStr (k : Int) (s : ByteArray) : Tk := ⟨k, 0, 0, s, 0, 0, 0, 0, 0, 0, 0⟩
def tkCell (a b : Int) : Tk := ⟨4, 0, 0, ⟨#[]⟩, a, b, 0, 0, 0, 0, 0⟩
def tkRect (a b c d : Int) : Tk := ⟨5, 0, 0, ⟨#[]⟩, 0, 0, a, b, c, d, 0⟩
def tkCode (c : Int) : Tk := ⟨6, 0, 0, ⟨#[]⟩, 0, 0, 0, 0, 0, 0, c⟩
def rdNum (s : ByteArray) : Tk := if Dc.parseOk s then tkNum (Dc.parseV s) else tk0 8
def rdQ (l : List UInt8) : Tk := if Lib.countByte l 34 % 2 = 0 then tkStr 2 (bs (Lib.replaceAll ((l.drop 1).take (l.length - 2)) [34, 34] [34])) else tk0 8
def rdF (s : ByteArray) : Tk := if Vv.namedOk s && !decide (Vv.namedC s = 1) then tkCode (Vv.namedC s) else tk0 8
def rdCell (s : ByteArray) : Tk := if pB s then tkCell (pR s) (pC s) else tk0 8
def rdRect (s : ByteArray) : Tk := if qB s then tkRect (qT s) (qL s) (qO s) (qR s) else tk0 8
def rdW (s : ByteArray) : Tk := if decide (0 ≤ Lib.indexByte s.data.toList 58) then rdRect s else if meant s.data.toList then rdCell s else tkStr 3 s
def rdT (s : ByteArray) : Tk :=
 if s.data.toList = [] then tk0 0 else if bgn s.data.toList DG then rdNum s else if bgn s.data.toList [34] then rdQ s.data.toList else if bgn s.data.toList [35] then rdF s else if bgn s.data.toList LT then rdW s else if bgn s.data.toList SG then tkStr 7 s else tk0 8
def dropB (l : List UInt8) : List UInt8 := l.dropWhile ([32].contains ·)
def pcs : Nat → List UInt8 → Nat → List (Nat × List UInt8)
 | 0, _, _ => []
 | f + 1, rest, n => (n - (dropB rest).length, (dropB rest).take (reachL (dropB rest))) ::
   (if (dropB rest).take (reachL (dropB rest)) = [] then [] else pcs f ((dropB rest).drop (reachL (dropB rest))) n)
def cutW : List Tk → List Tk
 | [] => []
 | t :: r => t :: (if t.kind = 8 then [] else cutW r)
def tkSet (t : Tk) (n : Nat) : Tk := ⟨t.kind, (n : Int), t.num, t.str, t.c0, t.c1, t.r0, t.r1, t.r2, t.r3, t.code⟩
def tkAt (x : Nat × List UInt8) : Tk := tkSet (rdT (bs x.2)) x.1
def pcsOf (s : ByteArray) : List (Nat × List UInt8) := pcs s.size (s.data.toList.drop 1) s.size
def isF (s : ByteArray) : Bool := [61].isPrefixOf s.data.toList
def toks (s : ByteArray) : List Tk := if isF s then cutW ((pcsOf s).map tkAt) else [tk0 8]
theorem runL_le (l cs : List UInt8) : runL l cs ≤ l.length := by unfold runL; exact (List.takeWhile_sublist _).length_le
theorem runL_drop (l cs : List UInt8) : l.length - (l.dropWhile (cs.contains ·)).length = runL l cs := by
 have h := congrArg List.length (List.takeWhile_append_dropWhile (p := (cs.contains ·)) (l := l))
 rw [List.length_append] at h
 unfold runL
 omega
theorem runL_pos {l cs : List UInt8} (h : bgn l cs = true) : 1 ≤ runL l cs := by
 cases l with
 | nil => simp [bgn] at h
 | cons c t => simp only [bgn] at h; unfold runL; rw [List.takeWhile_cons, if_pos h]; simp
theorem qrL_le : ∀ l : List UInt8, qrL l ≤ l.length
 | [] => by simp [qrL]
 | [_] => by simp [qrL]
 | c :: d :: t => by
  have h1 := qrL_le t
  have h2 := qrL_le (d :: t)
  simp only [qrL, List.length_cons] at h1 h2 ⊢
  split
  ·split <;> omega
  ·omega
theorem bgn_ne {l cs : List UInt8} (h : bgn l cs = true) : l ≠ [] := by rintro rfl; simp [bgn] at h
theorem len_pos {l : List UInt8} (h : l ≠ []) : 1 ≤ l.length := by cases l; exact absurd rfl h; simp
theorem bgn_imp {l cs ds : List UInt8} (h : bgn l cs = true) (hc : ∀ c, cs.contains c = true → ds.contains c = true) : bgn l ds = true := by
 cases l with
 | nil => simp [bgn] at h
 | cons c t => simp only [bgn] at h ⊢; exact hc c h
theorem DG_NB (c : UInt8) (h : DG.contains c = true) : NB.contains c = true := by simp [DG, NB] at h ⊢; rcases h with h | h | h | h | h | h | h | h | h | h <;> simp [h]
theorem LT_WD (c : UInt8) (h : LT.contains c = true) : WD.contains c = true := by
 have e : WD = LT ++ (DG ++ [95]) := rfl
 rw [e, List.contains_eq_mem] at *
 simp only [List.contains_eq_mem, decide_eq_true_eq] at h ⊢
 exact List.mem_append_left _ h
theorem idx_lt (l : List UInt8) (c : UInt8) (h : 0 ≤ Lib.indexByte l c) : (Lib.indexByte l c).toNat < l.length := by
 have e : Lib.indexByte l c = ((Lib.indexByte l c).toNat : Nat) := by omega
 have h1 := (Lib.indexByte_some e).1
 exact (List.getElem?_eq_some_iff.1 h1).1
theorem frL_le (l : List UInt8) : frL l ≤ l.length := by
 unfold frL
 split
 ·have := idx_lt l 33 zq15; omega
 ·omega
theorem frL_pos {l : List UInt8} (h : l ≠ []) : 1 ≤ frL l := by
 have := len_pos h
 unfold frL
 split <;> omega
theorem wrL_le (l : List UInt8) : wrL l ≤ l.length := by
 unfold wrL
 have h1 := runL_le l WD
 split
 ·rename_i h
  simp only [Bool.and_eq_true] at h
  have h2 := len_pos (bgn_ne h.2)
  have h3 := runL_le (l.drop (runL l WD + 1)) WD
  simp only [List.length_drop] at h2 h3
  omega
 ·exact h1
theorem wrL_pos {l : List UInt8} (h : bgn l LT = true) : 1 ≤ wrL l := by
 have := runL_pos (bgn_imp h LT_WD)
 unfold wrL
 split <;> omega
theorem twoL_len {l : List UInt8} (h : twoL l = true) : 2 ≤ l.length := by
 match l with
 | [] => simp [twoL] at h
 | [a] => simp [twoL] at h
 | a :: b :: t => simp
theorem reachL_le (l : List UInt8) : reachL l ≤ l.length := by
 unfold reachL
 split
 ·simp
 ·rename_i h0
  have := len_pos h0
  split
  ·exact runL_le _ _
  ·split
   ·have := qrL_le (l.drop 1); simp only [List.length_drop] at this; omega
   ·split
    ·exact frL_le l
    ·split
     ·exact wrL_le l
     ·split
      ·exact twoL_len zq15
      ·omega
theorem reachL_pos {l : List UInt8} (h : l ≠ []) : 1 ≤ reachL l := by
 unfold reachL
 rw [if_neg h]
 split
 ·exact runL_pos (bgn_imp zq15 DG_NB)
 ·split
  ·omega
  ·split
   ·exact frL_pos h
   ·split
    ·exact wrL_pos zq15
    ·split <;> omega
theorem take_nil_iff (l : List UInt8) : l.take (reachL l) = [] ↔ l = [] := by
 constructor
 ·intro h
  cases hl : l with
  | nil => rfl
  | cons c t =>
   have h1 := reachL_pos (l := l) (by rw [hl]; simp)
   have h2 := congrArg List.length h
   rw [List.length_take, hl] at h2
   rw [hl] at h1
   simp at h2
   omega
 ·rintro rfl; rfl
theorem dropB_le (l : List UInt8) : (dropB l).length ≤ l.length := (List.dropWhile_sublist _).length_le
end Go.Proofs.YtcmjhjnpcogmgaaGreatDoor
namespace Go.Proofs.YtcmjhjnpcogmgaaGreatDoor
open Go.Shelf Go.RowKit
theorem idx_mem (c : UInt8) : ∀ l : List UInt8, 0 ≤ Lib.indexByte l c ↔ c ∈ l
 | [] => by simp [Lib.indexByte]
 | a :: t => by
  have ih := idx_mem c t
  have hg := Lib.indexByte_ge t c
  by_cases h : a = c
  ·subst h; simp [Lib.indexByte]
  ·have h' : (a == c) = false := by simpa using h
   have h2 : ¬ c = a := fun e => h e.symm
   by_cases h3 : Lib.indexByte t c = -1
   ·have e : Lib.indexByte (a :: t) c = -1 := by simp [Lib.indexByte, h', h3]
    rw [e, List.mem_cons, ← ih, h3]; simp [h2]
   ·have e : Lib.indexByte (a :: t) c = Lib.indexByte t c + 1 := by simp [Lib.indexByte, h, h3]
    rw [e, List.mem_cons, ← ih]
    constructor
    ·intro _; right; omega
    ·rintro (k | k); exact absurd k h2; omega
theorem contains_idx (l : List UInt8) (c : UInt8) : decide (0 ≤ Lib.indexByte l c) = l.contains c := by
 rw [List.contains_eq_mem]; exact decide_eq_decide.2 (idx_mem c l)
theorem toL (s : ByteArray) : s.toList = s.data.toList := ByteArray.toList_eq s
theorem size_len (s : ByteArray) : s.size = s.data.toList.length := by simp
theorem ext_to (s : ByteArray) (k : Nat) : (s.extract 0 k).data.toList = s.data.toList.take k := by
 rw [ByteArray.data_extract, Array.toList_extract, List.extract_eq_take_drop, Nat.sub_zero, List.drop_zero]
theorem ext_from (s : ByteArray) (k : Nat) : (s.extract k s.size).data.toList = s.data.toList.drop k := by
 rw [ByteArray.data_extract, Array.toList_extract, List.extract_eq_take_drop, List.take_of_length_le (by simp)]
theorem bgn_at {s : ByteArray} {cs : List UInt8} (h : 0 < s.size) : bgn s.data.toList cs = cs.contains s[0] := by
 rw [size_len] at h
 cases hl : s.data.toList with
 | nil => rw [hl] at h; simp at h
 | cons c t =>
  simp only [bgn]
  congr 1
  have : s[0] = s.data.toList[0] := rfl
  rw [this]; simp [hl]
theorem idxByte (these : ByteArray) (c : UInt8) (w : World) :
  Calls Tryz.prog 125 #[.string these, .int .u8 c.toNat] w fun e w' => e = .returned (.int .i64 (Lib.indexByte these.data.toList c)) ∧ Below w.heap.size w w' := by
 have h : Calls Tryz.prog 125 #[.string these, .int .u8 c.toNat] w fun e w' => e = .returned (.int .i64 (Lib.indexByte these.data.toList (c.toNat : Int).toNat.toUInt8)) ∧ w' = w := Any.strings_IndexByte Tryz.lays137 these c.toNat w
 have e : (c.toNat : Int).toNat.toUInt8 = c := by simp
 rw [e] at h
 exact h.mono fun e w' ⟨he, hw⟩ => ⟨he, by rw [hw]; exact Below.refl _ _⟩
theorem begins_any (s these : ByteArray) (w : World) :
  Calls Tryz.prog 83 #[.string s, .string these] w fun e w' => e = .returned (.bool (bgn s.data.toList these.data.toList)) ∧ Below w.heap.size w w' := by
 by_cases h : 0 < s.size
 ·have hne : ¬ s.toList = [] := by rw [toL]; intro e; rw [size_len, e] at h; simp at h
  have he : s.toList.isEmpty = false := by cases hq : s.toList; exact absurd hq hne; rfl
  rw [bgn_at h, ← contains_idx]
  go_enter Tryz.func83, Tryz.ntmps83
  go_wp2_with (go_at_call 125; refine (idxByte _ _ _).mono ?_; rintro e w1 ⟨rfl, hb⟩; have hB := bux w zq2 hb; clear hb)
  go_ret
  exact ⟨rfl, zq15⟩
 ·have hn : s.toList = [] := by rw [toL]; rw [size_len] at h; exact List.length_eq_zero_iff.1 zq17
  have e : bgn s.data.toList these.data.toList = false := by rw [← toL, hn]; rfl
  rw [e]
  go_enter Tryz.func83, Tryz.ntmps83
  go_wp2
  go_ret
  exact ⟨rfl, Below.refl _ _⟩
theorem trimL (s these : ByteArray) (w : World) (hcs : these.size < 4294967281) (ha : ∀ (j : Nat) b, these.data.toList[j]? = some b → b.toNat < 128) :
  Calls Tryz.prog 81 #[.string s, .string these] w fun e w' => e = .returned (.string (bs (s.data.toList.dropWhile (these.data.toList.contains ·)))) ∧ Below w.heap.size w w' :=
 Any.strings_TrimLeft_laid Tryz.lays161 zq14 s these w hcs ha
theorem ascii_all {l : List UInt8} (h : l.all (fun b => decide (b.toNat < 128)) = true) : ∀ (j : Nat) b, l[j]? = some b → b.toNat < 128 := fun j b hj => by
 have := List.all_eq_true.1 h b (List.mem_of_getElem? hj)
 simpa using this
theorem run_any (s these : ByteArray) (w : World) (hs : s.size ≤ maxLen) (hcs : these.size < 4294967281) (ha : ∀ (j : Nat) b, these.data.toList[j]? = some b → b.toNat < 128) :
  Calls Tryz.prog 121 #[.string s, .string these] w fun e w' => e = .returned (.int .i64 (runL s.data.toList these.data.toList)) ∧ Below w.heap.size w w' := by
 unfold maxLen at hs
 have e1 := runL_drop s.data.toList these.data.toList
 have e2 : (s.data.toList.dropWhile (these.data.toList.contains ·)).length ≤ s.data.toList.length := (List.dropWhile_sublist _).length_le
 rw [← size_len] at e1 e2
 have e3 : (bs (s.data.toList.dropWhile (these.data.toList.contains ·))).size = (s.data.toList.dropWhile (these.data.toList.contains ·)).length := by simp [bs, ByteArray.size]
 rw [← e3] at e1 e2
 have hT := fun w => trimL s these w hcs ha
 revert e1 e2 hT
 generalize bs (s.data.toList.dropWhile (these.data.toList.contains ·)) = q
 generalize runL s.data.toList these.data.toList = r
 intro e1 e2 hT
 subst e1
 go_enter Tryz.func121, Tryz.ntmps121
 go_wp2_with (go_at_call 81; refine (hT _).mono ?_; rintro e w1 ⟨rfl, hb⟩; have hB := bux w zq2 hb; clear hb)
 go_ret
 exact ⟨by apply ret1; omega, zq15⟩
end Go.Proofs.YtcmjhjnpcogmgaaGreatDoor
namespace Go.Proofs.YtcmjhjnpcogmgaaGreatDoor
open Go.Shelf Go.RowKit
def fxAt (d : ByteArray) : Int := Lib.indexByte d.data.toList 33
def fxF (d : ByteArray) : Bool := decide (0 ≤ fxAt d)
def fxA (d : ByteArray) : ByteArray := if 0 ≤ fxAt d then d.extract 0 (fxAt d).toNat else d
def fxB (d : ByteArray) : ByteArray := if 0 ≤ fxAt d then d.extract ((fxAt d).toNat + 1) d.size else ⟨#[]⟩
theorem fxAt_lt (d : ByteArray) (h : 0 ≤ fxAt d) : (fxAt d).toNat < d.size := by
 have e : Lib.indexByte d.data.toList 33 = ((fxAt d).toNat : Nat) := by show fxAt d = _; omega
 have h1 := (Lib.indexByte_some e).1
 have h2 := List.getElem?_eq_some_iff.1 h1
 obtain ⟨h3, _⟩ := h2
 simpa using h3
theorem fxAt_ge (d : ByteArray) : -1 ≤ fxAt d := Lib.indexByte_ge _ _
theorem index_fx (d : ByteArray) (i : Int) (hi : fxAt d = i) (w : World) :
  Calls Tryz.prog 187 #[.string d, .string ⟨#[33]⟩] w fun e w' => e = .returned (.int .i64 i) ∧ w' = w := by
 subst hi; exact Any.stringslite_Index_one Tryz.lays219 d 33 w
theorem lfx_yes (d : ByteArray) (k : Nat) (hk : fxAt d = k) (hlt : k < d.size) (hs : d.size ≤ maxLen) (w : World) :
  Calls Tryz.prog 185 #[.string d, .string ⟨#[33]⟩] w fun e w' => e = .returned (.tuple #[.string (d.extract 0 k), .string (d.extract (k + 1) d.size), .bool true]) ∧ ∃ n, w' = w.drewN n := by
 unfold maxLen at hs
 have hlt' : (k : Int) < d.size := by omega
 go_enter Tryz.func185, Tryz.ntmps185
 go_wp2_with (go_at_call 187; refine (index_fx d k hk _).mono ?_; rintro e w' ⟨rfl, rfl⟩)
 go_quiet (fail)
 go_wp2
 go_ret3
 exact ⟨rfl, nq, rfl⟩
theorem lfx_no (d : ByteArray) (hk : fxAt d = -1) (w : World) :
  Calls Tryz.prog 185 #[.string d, .string ⟨#[33]⟩] w fun e w' => e = .returned (.tuple #[.string d, .string ⟨#[]⟩, .bool false]) ∧ ∃ n, w' = w.drewN n := by
 go_enter Tryz.func185, Tryz.ntmps185
 go_wp2_with (go_at_call 187; refine (index_fx d (-1) hk _).mono ?_; rintro e w' ⟨rfl, rfl⟩)
 go_ret3
 exact ⟨rfl, 0, rfl⟩
theorem lfx_any (d : ByteArray) (hs : d.size ≤ maxLen) (w : World) :
  Calls Tryz.prog 185 #[.string d, .string ⟨#[33]⟩] w fun e w' => e = .returned (.tuple #[.string (fxA d), .string (fxB d), .bool (fxF d)]) ∧ ∃ n, w' = w.drewN n := by
 by_cases h : 0 ≤ fxAt d
 ·have e1 : fxA d = d.extract 0 (fxAt d).toNat := by unfold fxA; rw [if_pos h]
  have e2 : fxB d = d.extract ((fxAt d).toNat + 1) d.size := by unfold fxB; rw [if_pos h]
  have e3 : fxF d = true := by unfold fxF; simp [h]
  rw [e1, e2, e3]
  exact lfx_yes d (fxAt d).toNat zq17 (fxAt_lt d h) hs w
 ·have e1 : fxA d = d := by unfold fxA; rw [if_neg h]
  have e2 : fxB d = ⟨#[]⟩ := by unfold fxB; rw [if_neg h]
  have e3 : fxF d = false := by unfold fxF; simp; omega
  rw [e1, e2, e3]
  exact lfx_no d (by have := fxAt_ge d; omega) w
theorem fx_any (d : ByteArray) (hs : d.size ≤ maxLen) (w : World) :
  Calls Tryz.prog 161 #[.string d, .string ⟨#[33]⟩] w fun e w' => e = .returned (.tuple #[.string (fxA d), .string (fxB d), .bool (fxF d)]) ∧ ∃ n, w' = w.drewN n := by
 go_enter Tryz.func161, Tryz.ntmps161
 go_wp2_with (go_at_call 185; refine (lfx_any d hs _).mono ?_; rintro e w' ⟨rfl, n, rfl⟩)
 go_ret3
 exact ⟨rfl, n, rfl⟩
theorem fx_bel (d : ByteArray) (hs : d.size ≤ maxLen) (w : World) :
  Calls Tryz.prog 161 #[.string d, .string ⟨#[33]⟩] w fun e w' => e = .returned (.tuple #[.string (fxA d), .string (fxB d), .bool (fxF d)]) ∧ Below w.heap.size w w' :=
 (fx_any d hs w).mono fun e w' ⟨he, n, hn⟩ => ⟨he, by subst hn; exact bdrewN (Below.refl _ _) n⟩
end Go.Proofs.YtcmjhjnpcogmgaaGreatDoor
