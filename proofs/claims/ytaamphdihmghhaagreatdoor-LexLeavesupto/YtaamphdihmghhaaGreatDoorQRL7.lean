/- The document's quoted, in the words of the program's reader of a text. New memory alone is made. The condition: a text of less than 4294967281 bytes; a byte stands there. -/
import Derived.Test.YtaamphdihmghhaaGreatDoorQRL1
import Derived.Test.YtaamphdihmghhaaGreatDoorQRL6RQ
namespace Go.Proofs.YtaamphdihmghhaaGreatDoor
open Go.Shelf Go.RowKit
set_option linter.all false
theorem ext_mid7 (s : ByteArray) (a b : Nat) : (s.extract a b).data.toList = (s.data.toList.drop a).take (b - a) := by
  rw [ByteArray.data_extract, Array.toList_extract, List.extract_eq_take_drop]
/-- What the loop keeps: the text up to a place and what is read from there on. -/
def QI (s : ByteArray) (a i : Nat) (t : ByteArray) : Prop :=
  t.data.toList ++ qtx (s.data.toList.drop i) = qtx (s.data.toList.drop (a + 1)) ∧ i + qrL (s.data.toList.drop i) = a + 1 + qrL (s.data.toList.drop (a + 1)) ∧ qok (s.data.toList.drop i) = qok (s.data.toList.drop (a + 1))
theorem QI.byte {s : ByteArray} {a i : Nat} {t : ByteArray} (h : QI s a i t) (hi : i < s.size) (hn : ¬ s[i].toNat = 34) : QI s a (i + 1) (t ++ s.extract i (i + 1)) := by
  have hll : i < s.data.toList.length := by rw [← size_len]; exact hi
  have e := q_byte hll (by rw [byte_at s i hi hll, ← UInt8.toNat_inj]; exact hn)
  obtain ⟨h1, h2, h3⟩ := h
  refine ⟨?_, by omega, by rw [← h3]; exact e.2.2.symm⟩
  rw [e.1] at h1
  have ex : (s.extract i (i + 1)).data.toList = [s.data.toList[i]] := by
    rw [ext_mid7, List.drop_eq_getElem_cons hll, Nat.add_sub_cancel_left]; rfl
  rw [ByteArray.data_append, Array.toList_append, ex, List.append_assoc]
  exact h1
theorem QI.pair {s : ByteArray} {a i : Nat} {t : ByteArray} (h : QI s a i t) (hi : i + 1 < s.size) (hn : s[i].toNat = 34) (hn' : s[i + 1].toNat = 34) : QI s a (i + 2) (t ++ ⟨#[34]⟩) := by
  have hll : i + 1 < s.data.toList.length := by rw [← size_len]; exact hi
  have e := q_pair hll (by rw [byte_at s i (by omega) (by omega), ← UInt8.toNat_inj]; exact hn) (by rw [byte_at s (i + 1) hi hll, ← UInt8.toNat_inj]; exact hn')
  obtain ⟨h1, h2, h3⟩ := h
  refine ⟨?_, by omega, by rw [← h3]; exact e.2.2.symm⟩
  rw [e.1] at h1
  rw [ByteArray.data_append, Array.toList_append, List.append_assoc]
  exact h1
theorem QI.shut {s : ByteArray} {a i : Nat} {t : ByteArray} (h : QI s a i t) (hi : i < s.size) (hn : s[i].toNat = 34) (hn' : ∀ x : i + 1 < s.size, ¬ s[i + 1].toNat = 34) : t = bs (qtx (s.data.toList.drop (a + 1))) ∧ i + 1 = a + 1 + qrL (s.data.toList.drop (a + 1)) ∧ qok (s.data.toList.drop (a + 1)) = true := by
  have hll : i < s.data.toList.length := by rw [← size_len]; exact hi
  have e := q_shut hll (by rw [byte_at s i hi hll, ← UInt8.toNat_inj]; exact hn) (fun x => by
    have x' : i + 1 < s.size := by rw [size_len]; exact x
    rw [byte_at s (i + 1) x' x, ← UInt8.toNat_inj]; exact hn' x')
  obtain ⟨h1, h2, h3⟩ := h
  refine ⟨?_, by omega, by rw [← h3]; exact e.2.2⟩
  rw [e.1, List.append_nil] at h1
  rw [← h1]; simp [bs]
theorem QI.out {s : ByteArray} {a i : Nat} {t : ByteArray} (h : QI s a i t) (hi : ¬ i < s.size) : qok (s.data.toList.drop (a + 1)) = false := by
  rw [← h.2.2]; exact q_out (by rw [← size_len]; exact hi)
theorem size_app1 (t s : ByteArray) (i : Nat) (hi : i < s.size) : (t ++ s.extract i (i + 1)).size = t.size + 1 := by
  rw [ByteArray.size_append, ByteArray.size_extract]; omega
theorem size_app2 (t : ByteArray) : (t ++ ⟨#[34]⟩ : ByteArray).size = t.size + 1 := by
  rw [ByteArray.size_append]; rfl
set_option maxHeartbeats 1000000 in
theorem rquoted (s : ByteArray) (a : Nat) (w : World) (hs : s.size < 4294967281) (haS : a < s.size) (T : Tk) (en : Nat) (hT : (qok (s.data.toList.drop (a + 1)) = true ∧ T = tkSet (tkStr 2 (bs (qtx (s.data.toList.drop (a + 1))))) a ∧ en = a + 1 + qrL (s.data.toList.drop (a + 1))) ∨ (qok (s.data.toList.drop (a + 1)) = false ∧ T = tkSet (tk0 8) a ∧ en = a)) :
    Calls Tryz.prog 18 #[.string s, .int .i64 a] w fun e w' => e = .returned (.tuple #[(.agg #[.int .i64 T.kind, .int .i64 T.at', .int .i64 T.num, .string T.str, .int .i64 T.c0, .int .i64 T.c1, .int .i64 T.r0, .int .i64 T.r1, .int .i64 T.r2, .int .i64 T.r3, .int .i64 T.code]), .int .i64 (en : Nat)]) ∧ Below w.heap.size w w' := by
  have HT : Hid _ := hT
  clear hT
  have haS' : (a : Int) < s.size := by omega
  have hwr := fun w => rwrong a w
  have mixed : Tryz.prog.follows .mixedOrders = true := by kernel_rfl
  go_enter Tryz.func18, Tryz.ntmps18
  go_wp2
  go_loopw [6, 7] (fun v x w' => ∃ (i : Nat) (t : ByteArray), v = .string t ∧ x = .int .i64 i ∧ i ≤ s.size ∧ t.size ≤ i ∧ Hid (QI s a i t) ∧ Below w.heap.size w w' ∧ Own w' w.heap.size #[.int .i64 (0), .int .i64 (0), .int .i64 (0), .string ⟨#[]⟩, .int .i64 (0), .int .i64 (0), .int .i64 (0), .int .i64 (0), .int .i64 (0), .int .i64 (0), .int .i64 (0)]) (fun _ x _ => s.size - (intOf x).toNat)
  case atStart => exact ⟨a + 1, ⟨#[]⟩, rfl, by go_num, by omega, Nat.zero_le _, ⟨rfl, rfl, rfl⟩, bal _ _, Own.new _ _ _⟩
  case round =>
    obtain ⟨i, t, rfl, rfl, hi, ht, hN, hB, o0⟩ := hrel
    have c0 := o0.cell
    have f0 := o0.fro
    have l0 := o0.lt
    by_cases hlt : i < s.size
    · have hlt' : (i : Int) < s.size := by omega
      have hi1 : (i : Int) + 1 ≤ s.size := by omega
      by_cases hx : s[i].toNat = 34
      · have hxb : ((s[i].toNat : Int) == 34) = true := by simp; omega
        by_cases hl2 : i + 1 < s.size
        · have hl2' : (i : Int) + 1 < s.size := by omega
          by_cases hy : s[i + 1].toNat = 34
          · have hyb : ((s[i + 1].toNat : Int) == 34) = true := by simp; omega
            have HN : Hid (QI s a (i + 2) (t ++ ⟨#[34]⟩)) := hN.out.pair hl2 hx hy
            have hsz := size_app2 t
            have hq : ¬ (9223372036854775807 < t.size + 1) := by omega
            clear hN hx hy HT hwr hsz
            go_wp2
            exact ⟨⟨i + 2, t ++ ⟨#[34]⟩, rfl, by go_num, by omega, by rw [size_app2]; omega, HN, by assumption, by assumption⟩, by simp [intOf]; omega⟩
          · have hyb : ((s[i + 1].toNat : Int) == 34) = false := by simp; omega
            have hh := hN.out.shut hlt hx (fun _ => hy)
            obtain ⟨rfl, rfl⟩ : T = tkSet (tkStr 2 t) a ∧ en = i + 1 := by
              rcases HT.out with ⟨_, h⟩ | ⟨h, _⟩
              · rw [hh.1, hh.2.1]; exact h
              · rw [hh.2.2] at h; cases h
            clear hN hx hy HT hh hwr
            go_wp2
            exact bodyPost_ret (v := .tuple #[(.agg #[.int .i64 (tkSet (tkStr 2 t) a).kind, .int .i64 (tkSet (tkStr 2 t) a).at', .int .i64 (tkSet (tkStr 2 t) a).num, .string (tkSet (tkStr 2 t) a).str, .int .i64 (tkSet (tkStr 2 t) a).c0, .int .i64 (tkSet (tkStr 2 t) a).c1, .int .i64 (tkSet (tkStr 2 t) a).r0, .int .i64 (tkSet (tkStr 2 t) a).r1, .int .i64 (tkSet (tkStr 2 t) a).r2, .int .i64 (tkSet (tkStr 2 t) a).r3, .int .i64 (tkSet (tkStr 2 t) a).code]), .int .i64 (i + 1 : Nat)]) (by simp [results, Tryz.results18, go_sem, c0, f0, l0, tkStr, tkSet]) rfl ⟨rfl, by with_reducible (repeat' first | assumption | exact Below.refl _ _ | refine Below.drew ?_ | refine Below.setCell ?_ (by first | exact Nat.le_refl _ | (simp; done) | (simp; omega) | omega) _ | refine Below.alloc ?_ (by first | exact Nat.le_refl _ | (simp; done) | (simp; omega) | omega) _)⟩
        · have hl2' : ¬ (i : Int) + 1 < s.size := by omega
          have hh := hN.out.shut hlt hx (fun x => absurd x hl2)
          obtain ⟨rfl, rfl⟩ : T = tkSet (tkStr 2 t) a ∧ en = i + 1 := by
            rcases HT.out with ⟨_, h⟩ | ⟨h, _⟩
            · rw [hh.1, hh.2.1]; exact h
            · rw [hh.2.2] at h; cases h
          clear hN hx HT hh hwr
          go_wp2
          exact bodyPost_ret (v := .tuple #[(.agg #[.int .i64 (tkSet (tkStr 2 t) a).kind, .int .i64 (tkSet (tkStr 2 t) a).at', .int .i64 (tkSet (tkStr 2 t) a).num, .string (tkSet (tkStr 2 t) a).str, .int .i64 (tkSet (tkStr 2 t) a).c0, .int .i64 (tkSet (tkStr 2 t) a).c1, .int .i64 (tkSet (tkStr 2 t) a).r0, .int .i64 (tkSet (tkStr 2 t) a).r1, .int .i64 (tkSet (tkStr 2 t) a).r2, .int .i64 (tkSet (tkStr 2 t) a).r3, .int .i64 (tkSet (tkStr 2 t) a).code]), .int .i64 (i + 1 : Nat)]) (by simp [results, Tryz.results18, go_sem, c0, f0, l0, tkStr, tkSet]) rfl ⟨rfl, by with_reducible (repeat' first | assumption | exact Below.refl _ _ | refine Below.drew ?_ | refine Below.setCell ?_ (by first | exact Nat.le_refl _ | (simp; done) | (simp; omega) | omega) _ | refine Below.alloc ?_ (by first | exact Nat.le_refl _ | (simp; done) | (simp; omega) | omega) _)⟩
      · have hxb : ((s[i].toNat : Int) == 34) = false := by simp; omega
        have HN : Hid (QI s a (i + 1) (t ++ s.extract i (i + 1))) := hN.out.byte hlt hx
        have hq : ¬ (9223372036854775807 < t.size + (s.extract i (i + 1)).size) := by rw [ByteArray.size_extract]; omega
        have hq2 : ¬ (9223372036854775807 < t.size + (min (i + 1) s.size - i)) := by omega
        clear hN hx HT hwr
        go_wp2
        exact ⟨⟨i + 1, t ++ s.extract i (i + 1), rfl, by go_num, by omega, by rw [size_app1 t s i hlt]; omega, HN, by assumption, by assumption⟩, by simp [intOf]; omega⟩
    · have hlt' : ¬ (i : Int) < s.size := by omega
      have hh := hN.out.out hlt
      obtain ⟨rfl, rfl⟩ : T = tkSet (tk0 8) a ∧ a = en := by
        rcases HT.out with ⟨h, _⟩ | ⟨_, h⟩
        · rw [hh] at h; cases h
        · exact ⟨h.1, h.2.symm⟩
      clear hN HT hh
      go_wp2_with (go_at_call 33; first | (refine (hwr _).mono ?_; clear hwr; rintro e w1 ⟨rfl, hb⟩; have hB1 : Below w.heap.size w w1 := bup (by with_reducible (repeat' first | assumption | exact Below.refl _ _ | refine Below.drew ?_ | refine Below.setCell ?_ (by first | exact Nat.le_refl _ | (simp; done) | (simp; omega) | omega) _ | refine Below.alloc ?_ (by first | exact Nat.le_refl _ | (simp; done) | (simp; omega) | omega) _)) hb; have o1 : Own w1 (w.heap.size) #[.int .i64 (0), .int .i64 (0), .int .i64 (0), .string ⟨#[]⟩, .int .i64 (0), .int .i64 (0), .int .i64 (0), .int .i64 (0), .int .i64 (0), .int .i64 (0), .int .i64 (0)] := Own.keep (by with_reducible (repeat' first | assumption | refine Own.drew ?_ | (refine Own.at ?_; first | rfl | (simp; done)) | refine Own.past ?_ _)) hb; have c0 := o1.cell; have f0 := o1.fro; have l0 := o1.lt; clear hb))
      exact bodyPost_ret (v := .tuple #[(.agg #[.int .i64 (tkSet (tk0 8) a).kind, .int .i64 (tkSet (tk0 8) a).at', .int .i64 (tkSet (tk0 8) a).num, .string (tkSet (tk0 8) a).str, .int .i64 (tkSet (tk0 8) a).c0, .int .i64 (tkSet (tk0 8) a).c1, .int .i64 (tkSet (tk0 8) a).r0, .int .i64 (tkSet (tk0 8) a).r1, .int .i64 (tkSet (tk0 8) a).r2, .int .i64 (tkSet (tk0 8) a).r3, .int .i64 (tkSet (tk0 8) a).code]), .int .i64 (a : Nat)]) (by simp [results, Tryz.results18, go_sem, c0, f0, l0, tk0, tkSet]) rfl ⟨rfl, by with_reducible (repeat' first | assumption | exact Below.refl _ _ | refine Below.drew ?_ | refine Below.setCell ?_ (by first | exact Nat.le_refl _ | (simp; done) | (simp; omega) | omega) _ | refine Below.alloc ?_ (by first | exact Nat.le_refl _ | (simp; done) | (simp; omega) | omega) _)⟩
end Go.Proofs.YtaamphdihmghhaaGreatDoor
