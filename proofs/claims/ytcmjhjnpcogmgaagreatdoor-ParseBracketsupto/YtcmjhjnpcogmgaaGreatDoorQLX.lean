/- What lex tells, in plain functions over lists of bytes: how far the first token of a text reaches, which token a piece is, the pieces of a text, its tokens. No walk. -/
import Derived.Test.YtcmjhjnpcogmgaaGreatDoorQA2P3
import Derived.Test.YtcmjhjnpcogmgaaGreatDoorQDcParseWDcParseAny
import Derived.Test.YtcmjhjnpcogmgaaGreatDoorQVvSumsVvV1VvVNVvVM
import Derived.Shelf.Strings.SlTrimAscii
import Derived.Shelf.Strings.Replace
namespace Go.Proofs.YtcmjhjnpcogmgaaGreatDoor
open Go.RowKit
set_option linter.all false

def DG : List UInt8 := [48, 49, 50, 51, 52, 53, 54, 55, 56, 57]
def LT : List UInt8 := [65, 66, 67, 68, 69, 70, 71, 72, 73, 74, 75, 76, 77, 78, 79, 80, 81, 82, 83, 84, 85, 86, 87, 88, 89, 90]
def NB : List UInt8 := [48, 49, 50, 51, 52, 53, 54, 55, 56, 57, 46]
def WD : List UInt8 := [65, 66, 67, 68, 69, 70, 71, 72, 73, 74, 75, 76, 77, 78, 79, 80, 81, 82, 83, 84, 85, 86, 87, 88, 89, 90, 48, 49, 50, 51, 52, 53, 54, 55, 56, 57, 95]
def SG : List UInt8 := [40, 41, 44, 43, 45, 42, 47, 37, 38, 61, 60, 62]
/-- Is the first byte one of these? -/
def bgn (l cs : List UInt8) : Bool := match l with
  | [] => false
  | c :: _ => cs.contains c
/-- How many bytes at the beginning are such as these. -/
def runL (l cs : List UInt8) : Nat := (l.takeWhile (cs.contains ·)).length
def meant (l : List UInt8) : Bool := !(l.drop (runL l LT)).isEmpty && runL (l.drop (runL l LT)) DG == (l.drop (runL l LT)).length
/-- Behind the first quote: how far up to and with the next that is not doubled. -/
def qrL : List UInt8 → Nat
  | [] => 0
  | [_] => 1
  | c :: d :: t => if c = 34 then (if d = 34 then 2 + qrL t else 1) else 1 + qrL (d :: t)
def frL (l : List UInt8) : Nat := if 0 ≤ Lib.indexByte l 33 then (Lib.indexByte l 33).toNat + 1 else l.length
def wrL (l : List UInt8) : Nat := if meant (l.take (runL l WD)) && bgn (l.drop (runL l WD)) [58] then runL l WD + 1 + runL (l.drop (runL l WD + 1)) WD else runL l WD
def twoL (l : List UInt8) : Bool := [60, 62].isPrefixOf l || ([60, 61].isPrefixOf l || [62, 61].isPrefixOf l)
/-- How many bytes the first token of a text takes. -/
def reachL (l : List UInt8) : Nat :=
  if l = [] then 0 else if bgn l DG then runL l NB else if bgn l [34] then 1 + qrL (l.drop 1) else if bgn l [35] then frL l else if bgn l LT then wrL l else if twoL l then 2 else 1

/-- A token. -/
structure Tk where
  kind : Int
  at' : Int
  num : Int
  str : ByteArray
  c0 : Int
  c1 : Int
  r0 : Int
  r1 : Int
  r2 : Int
  r3 : Int
  code : Int
def Tk.val (t : Tk) : Value := .agg #[.int .i64 t.kind, .int .i64 t.at', .int .i64 t.num, .string t.str, .int .i64 t.c0, .int .i64 t.c1, .int .i64 t.r0, .int .i64 t.r1, .int .i64 t.r2, .int .i64 t.r3, .int .i64 t.code]
def Tk.cells (t : Tk) : Array Value := #[.int .i64 t.kind, .int .i64 t.at', .int .i64 t.num, .string t.str, .int .i64 t.c0, .int .i64 t.c1, .int .i64 t.r0, .int .i64 t.r1, .int .i64 t.r2, .int .i64 t.r3, .int .i64 t.code]
def tk0 (k : Int) : Tk := ⟨k, 0, 0, ⟨#[]⟩, 0, 0, 0, 0, 0, 0, 0⟩
def bs (l : List UInt8) : ByteArray := ⟨l.toArray⟩
def tkNum (x : Int) : Tk := ⟨1, 0, x, ⟨#[]⟩, 0, 0, 0, 0, 0, 0, 0⟩
def tkStr (k : Int) (s : ByteArray) : Tk := ⟨k, 0, 0, s, 0, 0, 0, 0, 0, 0, 0⟩
def tkCell (a b : Int) : Tk := ⟨4, 0, 0, ⟨#[]⟩, a, b, 0, 0, 0, 0, 0⟩
def tkRect (a b c d : Int) : Tk := ⟨5, 0, 0, ⟨#[]⟩, 0, 0, a, b, c, d, 0⟩
def tkCode (c : Int) : Tk := ⟨6, 0, 0, ⟨#[]⟩, 0, 0, 0, 0, 0, 0, c⟩
def rdNum (s : ByteArray) : Tk := if Dc.parseOk s then tkNum (Dc.parseV s) else tk0 8
def rdQ (l : List UInt8) : Tk := if Lib.countByte l 34 % 2 = 0 then tkStr 2 (bs (Lib.replaceAll ((l.drop 1).take (l.length - 2)) [34, 34] [34])) else tk0 8
def rdF (s : ByteArray) : Tk := if Vv.namedOk s && !decide (Vv.namedC s = 1) then tkCode (Vv.namedC s) else tk0 8
def rdCell (s : ByteArray) : Tk := if pB s then tkCell (pR s) (pC s) else tk0 8
def rdRect (s : ByteArray) : Tk := if qB s then tkRect (qT s) (qL s) (qO s) (qR s) else tk0 8
def rdW (s : ByteArray) : Tk := if decide (0 ≤ Lib.indexByte s.data.toList 58) then rdRect s else if meant s.data.toList then rdCell s else tkStr 3 s
/-- Which token a piece is. -/
def rdT (s : ByteArray) : Tk :=
  if s.data.toList = [] then tk0 0 else if bgn s.data.toList DG then rdNum s else if bgn s.data.toList [34] then rdQ s.data.toList else if bgn s.data.toList [35] then rdF s else if bgn s.data.toList LT then rdW s else if bgn s.data.toList SG then tkStr 7 s else tk0 8

def dropB (l : List UInt8) : List UInt8 := l.dropWhile ([32].contains ·)
/-- The pieces of what is left of a text: where each begins (n: the text's length), what it is written as; in the end the empty one. -/
def pcs : Nat → List UInt8 → Nat → List (Nat × List UInt8)
  | 0, _, _ => []
  | f + 1, rest, n => (n - (dropB rest).length, (dropB rest).take (reachL (dropB rest))) ::
      (if (dropB rest).take (reachL (dropB rest)) = [] then [] else pcs f ((dropB rest).drop (reachL (dropB rest))) n)
def cutW : List Tk → List Tk
  | [] => []
  | t :: r => t :: (if t.kind = 8 then [] else cutW r)
def tkSet (t : Tk) (n : Nat) : Tk := ⟨t.kind, (n : Int), t.num, t.str, t.c0, t.c1, t.r0, t.r1, t.r2, t.r3, t.code⟩
def tkAt (x : Nat × List UInt8) : Tk := tkSet (rdT (bs x.2)) x.1
def pcsOf (s : ByteArray) : List (Nat × List UInt8) := pcs s.size (s.data.toList.drop 1) s.size
def isF (s : ByteArray) : Bool := [61].isPrefixOf s.data.toList
/-- The tokens of a text. -/
def toks (s : ByteArray) : List Tk := if isF s then cutW ((pcsOf s).map tkAt) else [tk0 8]

/-! What is shown of these. -/
theorem runL_le (l cs : List UInt8) : runL l cs ≤ l.length := by unfold runL; exact (List.takeWhile_sublist _).length_le
theorem runL_drop (l cs : List UInt8) : l.length - (l.dropWhile (cs.contains ·)).length = runL l cs := by
  have h := congrArg List.length (List.takeWhile_append_dropWhile (p := (cs.contains ·)) (l := l))
  rw [List.length_append] at h
  unfold runL
  omega
theorem runL_pos {l cs : List UInt8} (h : bgn l cs = true) : 1 ≤ runL l cs := by
  cases l with
  | nil => simp [bgn] at h
  | cons c t => simp only [bgn] at h; unfold runL; rw [List.takeWhile_cons, if_pos h]; simp
theorem qrL_le : ∀ l : List UInt8, qrL l ≤ l.length
  | [] => by simp [qrL]
  | [_] => by simp [qrL]
  | c :: d :: t => by
    have h1 := qrL_le t
    have h2 := qrL_le (d :: t)
    simp only [qrL, List.length_cons] at h1 h2 ⊢
    split
    · split <;> omega
    · omega
theorem bgn_ne {l cs : List UInt8} (h : bgn l cs = true) : l ≠ [] := by rintro rfl; simp [bgn] at h
theorem len_pos {l : List UInt8} (h : l ≠ []) : 1 ≤ l.length := by cases l; exact absurd rfl h; simp
theorem bgn_imp {l cs ds : List UInt8} (h : bgn l cs = true) (hc : ∀ c, cs.contains c = true → ds.contains c = true) : bgn l ds = true := by
  cases l with
  | nil => simp [bgn] at h
  | cons c t => simp only [bgn] at h ⊢; exact hc c h
theorem DG_NB (c : UInt8) (h : DG.contains c = true) : NB.contains c = true := by simp [DG, NB] at h ⊢; rcases h with h | h | h | h | h | h | h | h | h | h <;> simp [h]
theorem LT_WD (c : UInt8) (h : LT.contains c = true) : WD.contains c = true := by
  have e : WD = LT ++ (DG ++ [95]) := rfl
  rw [e, List.contains_eq_mem] at *
  simp only [List.contains_eq_mem, decide_eq_true_eq] at h ⊢
  exact List.mem_append_left _ h
theorem idx_lt (l : List UInt8) (c : UInt8) (h : 0 ≤ Lib.indexByte l c) : (Lib.indexByte l c).toNat < l.length := by
  have e : Lib.indexByte l c = ((Lib.indexByte l c).toNat : Nat) := by omega
  have h1 := (Lib.indexByte_some e).1
  exact (List.getElem?_eq_some_iff.1 h1).1
theorem frL_le (l : List UInt8) : frL l ≤ l.length := by
  unfold frL
  split
  · have := idx_lt l 33 (by assumption); omega
  · omega
theorem frL_pos {l : List UInt8} (h : l ≠ []) : 1 ≤ frL l := by
  have := len_pos h
  unfold frL
  split <;> omega
theorem wrL_le (l : List UInt8) : wrL l ≤ l.length := by
  unfold wrL
  have h1 := runL_le l WD
  split
  · rename_i h
    simp only [Bool.and_eq_true] at h
    have h2 := len_pos (bgn_ne h.2)
    have h3 := runL_le (l.drop (runL l WD + 1)) WD
    simp only [List.length_drop] at h2 h3
    omega
  · exact h1
theorem wrL_pos {l : List UInt8} (h : bgn l LT = true) : 1 ≤ wrL l := by
  have := runL_pos (bgn_imp h LT_WD)
  unfold wrL
  split <;> omega
theorem twoL_len {l : List UInt8} (h : twoL l = true) : 2 ≤ l.length := by
  match l with
  | [] => simp [twoL] at h
  | [a] => simp [twoL] at h
  | a :: b :: t => simp
theorem reachL_le (l : List UInt8) : reachL l ≤ l.length := by
  unfold reachL
  split
  · simp
  · rename_i h0
    have := len_pos h0
    split
    · exact runL_le _ _
    · split
      · have := qrL_le (l.drop 1); simp only [List.length_drop] at this; omega
      · split
        · exact frL_le l
        · split
          · exact wrL_le l
          · split
            · exact twoL_len (by assumption)
            · omega
theorem reachL_pos {l : List UInt8} (h : l ≠ []) : 1 ≤ reachL l := by
  unfold reachL
  rw [if_neg h]
  split
  · exact runL_pos (bgn_imp (by assumption) DG_NB)
  · split
    · omega
    · split
      · exact frL_pos h
      · split
        · exact wrL_pos (by assumption)
        · split <;> omega
theorem take_nil_iff (l : List UInt8) : l.take (reachL l) = [] ↔ l = [] := by
  constructor
  · intro h
    cases hl : l with
    | nil => rfl
    | cons c t =>
      have h1 := reachL_pos (l := l) (by rw [hl]; simp)
      have h2 := congrArg List.length h
      rw [List.length_take, hl] at h2
      rw [hl] at h1
      simp at h2
      omega
  · rintro rfl; rfl
theorem dropB_le (l : List UInt8) : (dropB l).length ≤ l.length := (List.dropWhile_sublist _).length_le
end Go.Proofs.YtcmjhjnpcogmgaaGreatDoor
