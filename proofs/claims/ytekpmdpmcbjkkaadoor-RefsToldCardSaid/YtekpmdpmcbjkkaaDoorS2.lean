/- The contract of the document's Named: of every text whether a call may have it as its name, in the words of the program's. Nothing is made. No condition but that a text's length is an int. -/
import Derived.Test.YtekpmdpmcbjkkaaDoorS1
namespace Go.Proofs.YtekpmdpmcbjkkaaDoor
open Go.Shelf Go.RowKit
set_option linter.all false
set_option maxHeartbeats 1000000 in
theorem named_1 (s : ByteArray) (w : World) (h1 : (s.size : Int) < 1) : Calls Tryd.prog 36 #[.string s] w fun e w' => e = .returned (.bool false) ∧ Below w.heap.size w w' := by
  go_enter Tryd.func36, Tryd.ntmps36
  go_wp2
  all_goals go_ret
  all_goals exact ⟨rfl, Below.refl _ _⟩
set_option maxHeartbeats 1000000 in
theorem named_2 (s : ByteArray) (w : World) (h1 : ¬ (s.size : Int) < 1) (h2 : (16 : Int) < s.size) : Calls Tryd.prog 36 #[.string s] w fun e w' => e = .returned (.bool false) ∧ Below w.heap.size w w' := by
  go_enter Tryd.func36, Tryd.ntmps36
  go_wp2
  all_goals go_ret
  all_goals exact ⟨rfl, Below.refl _ _⟩
set_option maxHeartbeats 1000000 in
theorem named_3 (s : ByteArray) (w : World) (h1 : ¬ (s.size : Int) < 1) (h2 : ¬ (16 : Int) < s.size) (h3 : (s.toList == [84, 82, 85, 69]) = true) : Calls Tryd.prog 36 #[.string s] w fun e w' => e = .returned (.bool false) ∧ Below w.heap.size w w' := by
  go_enter Tryd.func36, Tryd.ntmps36
  go_wp2
  all_goals go_ret
  all_goals exact ⟨rfl, Below.refl _ _⟩
set_option maxHeartbeats 1000000 in
theorem named_4 (s : ByteArray) (w : World) (h1 : ¬ (s.size : Int) < 1) (h2 : ¬ (16 : Int) < s.size) (h3 : (s.toList == [84, 82, 85, 69]) = false) (h4 : (s.toList == [70, 65, 76, 83, 69]) = true) : Calls Tryd.prog 36 #[.string s] w fun e w' => e = .returned (.bool false) ∧ Below w.heap.size w w' := by
  go_enter Tryd.func36, Tryd.ntmps36
  go_wp2
  all_goals go_ret
  all_goals exact ⟨rfl, Below.refl _ _⟩
theorem in_no {c : UInt8} (h : ¬ ((48 ≤ c.toNat ∧ c.toNat ≤ 57) ∨ (65 ≤ c.toNat ∧ c.toNat ≤ 90) ∨ c.toNat = 95)) : inB c = false := by
  cases e : inB c
  · rfl
  · exact absurd ((in_iff c).1 e) h
theorem up_no {c : UInt8} (h : ¬ (65 ≤ c.toNat ∧ c.toNat ≤ 90)) : upB c = false := by
  cases e : upB c
  · rfl
  · exact absurd ((up_iff c).1 e) h
set_option maxRecDepth 100000 in
set_option maxHeartbeats 8000000 in
theorem named_y (s : ByteArray) (w : World) (h1 : ¬ (s.size : Int) < 1) (h2 : ¬ (16 : Int) < s.size) (h3 : (s.toList == [84, 82, 85, 69]) = false) (h4 : (s.toList == [70, 65, 76, 83, 69]) = false) : Calls Tryd.prog 36 #[.string s] w fun e w' => e = .returned (.bool (nameOk s)) ∧ Below w.heap.size w w' := by
  go_enter Tryd.func36, Tryd.ntmps36
  go_wp2
  go_loop [3] (fun x => ∃ j : Nat, x = .int .i64 j ∧ j ≤ s.size ∧ Hid (Lets s j)) (fun x => s.size - (intOf x).toNat)
  case atStart => exact ⟨0, rfl, by omega, fun k hk h => absurd h (by omega)⟩
  case round =>
    obtain ⟨j, rfl, hjs, hlets⟩ := hrel
    by_cases hjl : j < s.size
    · have hjl' : (j : Int) < s.size := by omega
      by_cases qa : 65 ≤ s[j].toNat
      · have qa' : (65 : Int) ≤ (s[j].toNat : Int) := by omega
        have qa2 : decide ((65 : Int) ≤ (s[j].toNat : Int)) = true := by simpa using qa'
        by_cases qb : s[j].toNat ≤ 90
        · have qb' : (s[j].toNat : Int) ≤ (90 : Int) := by omega
          have qb2 : decide ((s[j].toNat : Int) ≤ (90 : Int)) = true := by simpa using qb'
          have HN : Hid (Lets s (j + 1)) := lets_next hjl hlets.out ((up_iff _).2 ⟨qa, qb⟩)
          clear qa qb
          go_wp2
          go_round
          case rel => exact ⟨j + 1, by go_num, by omega, HN⟩
          case measure => simp [intOf]; omega
        · have qb' : ¬ (s[j].toNat : Int) ≤ (90 : Int) := by omega
          have qb2 : decide ((s[j].toNat : Int) ≤ (90 : Int)) = false := by simpa using qb'
          have HL : Hid (nLet s = j) := lets_end hlets.out (.inr ⟨hjl, up_no (by omega)⟩) hjs
          clear qa qb hlets
          by_cases hj0 : j = 0
          · have HF : Hid (nameOk s = false) := name_no (fun h => h.1 (HL.out.trans hj0))
            have e0 : ((j : Int) == 0) = true := by simp; omega
            clear hj0
            go_wp2
            all_goals go_ret
            all_goals exact ⟨by rw [HF.out]; rfl, Below.refl _ _⟩
          · have e0 : ((j : Int) == 0) = false := by simp; omega
            have e1 : ¬ (j : Int) = 0 := by omega
            have hj0' : 0 < j := by omega
            clear hj0
            go_wp2
            go_loop [4, 5] (fun p x => ∃ (i : Nat) (b : Bool), x = .int .i64 i ∧ p = .bool b ∧ j ≤ i ∧ i ≤ s.size ∧ Hid (Ins inB s j i) ∧ Hid (b = true ↔ (j < s.size ∧ Ins dgB s j i))) (fun _ x => s.size - (intOf x).toNat)
            case atStart => exact ⟨j, _, rfl, rfl, Nat.le_refl _, hjs, (fun k hk h1 h2 => absurd h2 (by omega)), ⟨fun h => ⟨by first | omega | (simpa using h), fun k hk h1 h2 => absurd h2 (by omega)⟩, fun h => by first | rfl | (simp; omega) | (have := h.1; omega)⟩⟩
            case round =>
              obtain ⟨i, b, rfl, rfl, hri, hi, hin, hpl⟩ := hrel
              by_cases hlt : i < s.size
              · have hlt' : (i : Int) < s.size := by omega
                by_cases q0 : s[i].toNat < 48
                · have z0 : ¬ (48 : Int) ≤ (s[i].toNat : Int) := by omega
                  have y0 : decide ((48 : Int) ≤ (s[i].toNat : Int)) = false := by simpa using z0
                  have z1 : ¬ (65 : Int) ≤ (s[i].toNat : Int) := by omega
                  have y1 : decide ((65 : Int) ≤ (s[i].toNat : Int)) = false := by simpa using z1
                  have u95 : ((s[i].toNat : Int) == 95) = false := by simp; omega
                  have HF : Hid (nameOk s = false) := name_no (fun h => ins_not (p := inB) hlt hri (in_no (by omega)) (HL.out ▸ h.2.2.1))
                  clear q0
                  go_wp2
                  all_goals go_ret
                  all_goals exact ⟨by rw [HF.out]; rfl, Below.refl _ _⟩
                by_cases q1 : 48 ≤ s[i].toNat ∧ s[i].toNat ≤ 57
                · have z0 : (48 : Int) ≤ (s[i].toNat : Int) := by omega
                  have y0 : decide ((48 : Int) ≤ (s[i].toNat : Int)) = true := by simpa using z0
                  have z1 : (s[i].toNat : Int) ≤ (57 : Int) := by omega
                  have y1 : decide ((s[i].toNat : Int) ≤ (57 : Int)) = true := by simpa using z1
                  have z2 : ¬ (65 : Int) ≤ (s[i].toNat : Int) := by omega
                  have y2 : decide ((65 : Int) ≤ (s[i].toNat : Int)) = false := by simpa using z2
                  have u95 : ((s[i].toNat : Int) == 95) = false := by simp; omega
                  have HI : Hid (Ins inB s j (i + 1)) := ins_next hlt hin.out ((in_iff _).2 (by omega))
                  have HD : Hid (b = true ↔ (j < s.size ∧ Ins dgB s j (i + 1))) := ⟨fun h => ⟨(hpl.out.1 h).1, ins_next hlt (hpl.out.1 h).2 ((dg_iff _).2 (by omega))⟩, fun h => hpl.out.2 ⟨h.1, fun k hk h1 h2 => h.2 k hk h1 (by omega)⟩⟩
                  clear q0 q1
                  go_wp2
                  go_round
                  case rel => exact ⟨i + 1, b, by go_num, rfl, by omega, by omega, HI, HD⟩
                  case measure => simp [intOf]; omega
                by_cases q2 : 57 < s[i].toNat ∧ s[i].toNat < 65
                · have z0 : (48 : Int) ≤ (s[i].toNat : Int) := by omega
                  have y0 : decide ((48 : Int) ≤ (s[i].toNat : Int)) = true := by simpa using z0
                  have z1 : ¬ (s[i].toNat : Int) ≤ (57 : Int) := by omega
                  have y1 : decide ((s[i].toNat : Int) ≤ (57 : Int)) = false := by simpa using z1
                  have z2 : ¬ (65 : Int) ≤ (s[i].toNat : Int) := by omega
                  have y2 : decide ((65 : Int) ≤ (s[i].toNat : Int)) = false := by simpa using z2
                  have u95 : ((s[i].toNat : Int) == 95) = false := by simp; omega
                  have HF : Hid (nameOk s = false) := name_no (fun h => ins_not (p := inB) hlt hri (in_no (by omega)) (HL.out ▸ h.2.2.1))
                  clear q0 q1 q2
                  go_wp2
                  all_goals go_ret
                  all_goals exact ⟨by rw [HF.out]; rfl, Below.refl _ _⟩
                by_cases q3 : 65 ≤ s[i].toNat ∧ s[i].toNat ≤ 90
                · have z0 : (48 : Int) ≤ (s[i].toNat : Int) := by omega
                  have y0 : decide ((48 : Int) ≤ (s[i].toNat : Int)) = true := by simpa using z0
                  have z1 : ¬ (s[i].toNat : Int) ≤ (57 : Int) := by omega
                  have y1 : decide ((s[i].toNat : Int) ≤ (57 : Int)) = false := by simpa using z1
                  have z2 : (65 : Int) ≤ (s[i].toNat : Int) := by omega
                  have y2 : decide ((65 : Int) ≤ (s[i].toNat : Int)) = true := by simpa using z2
                  have z3 : (s[i].toNat : Int) ≤ (90 : Int) := by omega
                  have y3 : decide ((s[i].toNat : Int) ≤ (90 : Int)) = true := by simpa using z3
                  have u95 : ((s[i].toNat : Int) == 95) = false := by simp; omega
                  have HI : Hid (Ins inB s j (i + 1)) := ins_next hlt hin.out ((in_iff _).2 (by omega))
                  have HD : Hid (false = true ↔ (j < s.size ∧ Ins dgB s j (i + 1))) := ⟨(fun h => by cases h), fun h => absurd ((dg_iff s[i]).1 (h.2 i hlt hri (by omega))) (by omega)⟩
                  clear q0 q1 q2 q3
                  go_wp2
                  go_round
                  case rel => exact ⟨i + 1, false, by go_num, rfl, by omega, by omega, HI, HD⟩
                  case measure => simp [intOf]; omega
                by_cases q4 : 90 < s[i].toNat ∧ s[i].toNat ≠ 95
                · have z0 : (48 : Int) ≤ (s[i].toNat : Int) := by omega
                  have y0 : decide ((48 : Int) ≤ (s[i].toNat : Int)) = true := by simpa using z0
                  have z1 : ¬ (s[i].toNat : Int) ≤ (57 : Int) := by omega
                  have y1 : decide ((s[i].toNat : Int) ≤ (57 : Int)) = false := by simpa using z1
                  have z2 : (65 : Int) ≤ (s[i].toNat : Int) := by omega
                  have y2 : decide ((65 : Int) ≤ (s[i].toNat : Int)) = true := by simpa using z2
                  have z3 : ¬ (s[i].toNat : Int) ≤ (90 : Int) := by omega
                  have y3 : decide ((s[i].toNat : Int) ≤ (90 : Int)) = false := by simpa using z3
                  have u95 : ((s[i].toNat : Int) == 95) = false := by simp; omega
                  have HF : Hid (nameOk s = false) := name_no (fun h => ins_not (p := inB) hlt hri (in_no (by omega)) (HL.out ▸ h.2.2.1))
                  clear q0 q1 q2 q3 q4
                  go_wp2
                  all_goals go_ret
                  all_goals exact ⟨by rw [HF.out]; rfl, Below.refl _ _⟩
                have q5 : s[i].toNat = 95 := by omega
                have z0 : (48 : Int) ≤ (s[i].toNat : Int) := by omega
                have y0 : decide ((48 : Int) ≤ (s[i].toNat : Int)) = true := by simpa using z0
                have z1 : ¬ (s[i].toNat : Int) ≤ (57 : Int) := by omega
                have y1 : decide ((s[i].toNat : Int) ≤ (57 : Int)) = false := by simpa using z1
                have z2 : (65 : Int) ≤ (s[i].toNat : Int) := by omega
                have y2 : decide ((65 : Int) ≤ (s[i].toNat : Int)) = true := by simpa using z2
                have z3 : ¬ (s[i].toNat : Int) ≤ (90 : Int) := by omega
                have y3 : decide ((s[i].toNat : Int) ≤ (90 : Int)) = false := by simpa using z3
                have u95 : ((s[i].toNat : Int) == 95) = true := by simp; omega
                have HI : Hid (Ins inB s j (i + 1)) := ins_next hlt hin.out ((in_iff _).2 (by omega))
                have HD : Hid (false = true ↔ (j < s.size ∧ Ins dgB s j (i + 1))) := ⟨(fun h => by cases h), fun h => absurd ((dg_iff s[i]).1 (h.2 i hlt hri (by omega))) (by omega)⟩
                clear q0 q1 q2 q3 q4 q5
                go_wp2
                go_round
                case rel => exact ⟨i + 1, false, by go_num, rfl, by omega, by omega, HI, HD⟩
                case measure => simp [intOf]; omega
              · have hlt' : ¬ (i : Int) < s.size := by omega
                obtain rfl : i = s.size := by omega
                have HF : Hid (nameOk s = !b) := by
                  show _ = _
                  have hA := ins_all hin.out
                  rw [← HL.out] at hA
                  cases b
                  · show nameOk s = true
                    refine (nameOk_is s).2 ⟨by rw [HL.out]; omega, by omega, hA, h3, h4, ?_⟩
                    by_cases hd : s.data.toList.drop (nLet s) = []
                    · exact .inl hd
                    · refine .inr fun h => ?_
                      have : false = true := hpl.out.2 ⟨by
                        have h5 : 0 < (s.data.toList.drop (nLet s)).length := List.length_pos_iff.2 hd
                        rw [List.length_drop, ← size_len, HL.out] at h5; omega, fun k hk h1 h2 => h s[k] (List.mem_iff_getElem.2 ⟨k - j, by rw [List.length_drop, ← size_len, HL.out]; omega, by rw [List.getElem_drop]; simp only [HL.out, show j + (k - j) = k by omega]; rfl⟩)⟩
                      cases this
                  · show nameOk s = false
                    refine name_no (fun h => ?_)
                    have h6 := hpl.out.1 rfl
                    have h7 := ins_all h6.2
                    rcases h.2.2.2.2.2 with q | q
                    · have := congrArg List.length q
                      rw [List.length_drop, ← size_len, HL.out, List.length_nil] at this
                      omega
                    · rw [HL.out] at q; exact q h7
                go_wp2
                go_ret
                exact ⟨by rw [HF.out]; rfl, Below.refl _ _⟩
      · have qa' : ¬ (65 : Int) ≤ (s[j].toNat : Int) := by omega
        have qa2 : decide ((65 : Int) ≤ (s[j].toNat : Int)) = false := by simpa using qa'
        have HL : Hid (nLet s = j) := lets_end hlets.out (.inr ⟨hjl, up_no (by omega)⟩) hjs
        clear qa hlets
        by_cases hj0 : j = 0
        · have HF : Hid (nameOk s = false) := name_no (fun h => h.1 (HL.out.trans hj0))
          have e0 : ((j : Int) == 0) = true := by simp; omega
          clear hj0
          go_wp2
          all_goals go_ret
          all_goals exact ⟨by rw [HF.out]; rfl, Below.refl _ _⟩
        · have e0 : ((j : Int) == 0) = false := by simp; omega
          have e1 : ¬ (j : Int) = 0 := by omega
          have hj0' : 0 < j := by omega
          clear hj0
          go_wp2
          go_loop [4, 5] (fun p x => ∃ (i : Nat) (b : Bool), x = .int .i64 i ∧ p = .bool b ∧ j ≤ i ∧ i ≤ s.size ∧ Hid (Ins inB s j i) ∧ Hid (b = true ↔ (j < s.size ∧ Ins dgB s j i))) (fun _ x => s.size - (intOf x).toNat)
          case atStart => exact ⟨j, _, rfl, rfl, Nat.le_refl _, hjs, (fun k hk h1 h2 => absurd h2 (by omega)), ⟨fun h => ⟨by first | omega | (simpa using h), fun k hk h1 h2 => absurd h2 (by omega)⟩, fun h => by first | rfl | (simp; omega) | (have := h.1; omega)⟩⟩
          case round =>
            obtain ⟨i, b, rfl, rfl, hri, hi, hin, hpl⟩ := hrel
            by_cases hlt : i < s.size
            · have hlt' : (i : Int) < s.size := by omega
              by_cases q0 : s[i].toNat < 48
              · have z0 : ¬ (48 : Int) ≤ (s[i].toNat : Int) := by omega
                have y0 : decide ((48 : Int) ≤ (s[i].toNat : Int)) = false := by simpa using z0
                have z1 : ¬ (65 : Int) ≤ (s[i].toNat : Int) := by omega
                have y1 : decide ((65 : Int) ≤ (s[i].toNat : Int)) = false := by simpa using z1
                have u95 : ((s[i].toNat : Int) == 95) = false := by simp; omega
                have HF : Hid (nameOk s = false) := name_no (fun h => ins_not (p := inB) hlt hri (in_no (by omega)) (HL.out ▸ h.2.2.1))
                clear q0
                go_wp2
                all_goals go_ret
                all_goals exact ⟨by rw [HF.out]; rfl, Below.refl _ _⟩
              by_cases q1 : 48 ≤ s[i].toNat ∧ s[i].toNat ≤ 57
              · have z0 : (48 : Int) ≤ (s[i].toNat : Int) := by omega
                have y0 : decide ((48 : Int) ≤ (s[i].toNat : Int)) = true := by simpa using z0
                have z1 : (s[i].toNat : Int) ≤ (57 : Int) := by omega
                have y1 : decide ((s[i].toNat : Int) ≤ (57 : Int)) = true := by simpa using z1
                have z2 : ¬ (65 : Int) ≤ (s[i].toNat : Int) := by omega
                have y2 : decide ((65 : Int) ≤ (s[i].toNat : Int)) = false := by simpa using z2
                have u95 : ((s[i].toNat : Int) == 95) = false := by simp; omega
                have HI : Hid (Ins inB s j (i + 1)) := ins_next hlt hin.out ((in_iff _).2 (by omega))
                have HD : Hid (b = true ↔ (j < s.size ∧ Ins dgB s j (i + 1))) := ⟨fun h => ⟨(hpl.out.1 h).1, ins_next hlt (hpl.out.1 h).2 ((dg_iff _).2 (by omega))⟩, fun h => hpl.out.2 ⟨h.1, fun k hk h1 h2 => h.2 k hk h1 (by omega)⟩⟩
                clear q0 q1
                go_wp2
                go_round
                case rel => exact ⟨i + 1, b, by go_num, rfl, by omega, by omega, HI, HD⟩
                case measure => simp [intOf]; omega
              by_cases q2 : 57 < s[i].toNat ∧ s[i].toNat < 65
              · have z0 : (48 : Int) ≤ (s[i].toNat : Int) := by omega
                have y0 : decide ((48 : Int) ≤ (s[i].toNat : Int)) = true := by simpa using z0
                have z1 : ¬ (s[i].toNat : Int) ≤ (57 : Int) := by omega
                have y1 : decide ((s[i].toNat : Int) ≤ (57 : Int)) = false := by simpa using z1
                have z2 : ¬ (65 : Int) ≤ (s[i].toNat : Int) := by omega
                have y2 : decide ((65 : Int) ≤ (s[i].toNat : Int)) = false := by simpa using z2
                have u95 : ((s[i].toNat : Int) == 95) = false := by simp; omega
                have HF : Hid (nameOk s = false) := name_no (fun h => ins_not (p := inB) hlt hri (in_no (by omega)) (HL.out ▸ h.2.2.1))
                clear q0 q1 q2
                go_wp2
                all_goals go_ret
                all_goals exact ⟨by rw [HF.out]; rfl, Below.refl _ _⟩
              by_cases q3 : 65 ≤ s[i].toNat ∧ s[i].toNat ≤ 90
              · have z0 : (48 : Int) ≤ (s[i].toNat : Int) := by omega
                have y0 : decide ((48 : Int) ≤ (s[i].toNat : Int)) = true := by simpa using z0
                have z1 : ¬ (s[i].toNat : Int) ≤ (57 : Int) := by omega
                have y1 : decide ((s[i].toNat : Int) ≤ (57 : Int)) = false := by simpa using z1
                have z2 : (65 : Int) ≤ (s[i].toNat : Int) := by omega
                have y2 : decide ((65 : Int) ≤ (s[i].toNat : Int)) = true := by simpa using z2
                have z3 : (s[i].toNat : Int) ≤ (90 : Int) := by omega
                have y3 : decide ((s[i].toNat : Int) ≤ (90 : Int)) = true := by simpa using z3
                have u95 : ((s[i].toNat : Int) == 95) = false := by simp; omega
                have HI : Hid (Ins inB s j (i + 1)) := ins_next hlt hin.out ((in_iff _).2 (by omega))
                have HD : Hid (false = true ↔ (j < s.size ∧ Ins dgB s j (i + 1))) := ⟨(fun h => by cases h), fun h => absurd ((dg_iff s[i]).1 (h.2 i hlt hri (by omega))) (by omega)⟩
                clear q0 q1 q2 q3
                go_wp2
                go_round
                case rel => exact ⟨i + 1, false, by go_num, rfl, by omega, by omega, HI, HD⟩
                case measure => simp [intOf]; omega
              by_cases q4 : 90 < s[i].toNat ∧ s[i].toNat ≠ 95
              · have z0 : (48 : Int) ≤ (s[i].toNat : Int) := by omega
                have y0 : decide ((48 : Int) ≤ (s[i].toNat : Int)) = true := by simpa using z0
                have z1 : ¬ (s[i].toNat : Int) ≤ (57 : Int) := by omega
                have y1 : decide ((s[i].toNat : Int) ≤ (57 : Int)) = false := by simpa using z1
                have z2 : (65 : Int) ≤ (s[i].toNat : Int) := by omega
                have y2 : decide ((65 : Int) ≤ (s[i].toNat : Int)) = true := by simpa using z2
                have z3 : ¬ (s[i].toNat : Int) ≤ (90 : Int) := by omega
                have y3 : decide ((s[i].toNat : Int) ≤ (90 : Int)) = false := by simpa using z3
                have u95 : ((s[i].toNat : Int) == 95) = false := by simp; omega
                have HF : Hid (nameOk s = false) := name_no (fun h => ins_not (p := inB) hlt hri (in_no (by omega)) (HL.out ▸ h.2.2.1))
                clear q0 q1 q2 q3 q4
                go_wp2
                all_goals go_ret
                all_goals exact ⟨by rw [HF.out]; rfl, Below.refl _ _⟩
              have q5 : s[i].toNat = 95 := by omega
              have z0 : (48 : Int) ≤ (s[i].toNat : Int) := by omega
              have y0 : decide ((48 : Int) ≤ (s[i].toNat : Int)) = true := by simpa using z0
              have z1 : ¬ (s[i].toNat : Int) ≤ (57 : Int) := by omega
              have y1 : decide ((s[i].toNat : Int) ≤ (57 : Int)) = false := by simpa using z1
              have z2 : (65 : Int) ≤ (s[i].toNat : Int) := by omega
              have y2 : decide ((65 : Int) ≤ (s[i].toNat : Int)) = true := by simpa using z2
              have z3 : ¬ (s[i].toNat : Int) ≤ (90 : Int) := by omega
              have y3 : decide ((s[i].toNat : Int) ≤ (90 : Int)) = false := by simpa using z3
              have u95 : ((s[i].toNat : Int) == 95) = true := by simp; omega
              have HI : Hid (Ins inB s j (i + 1)) := ins_next hlt hin.out ((in_iff _).2 (by omega))
              have HD : Hid (false = true ↔ (j < s.size ∧ Ins dgB s j (i + 1))) := ⟨(fun h => by cases h), fun h => absurd ((dg_iff s[i]).1 (h.2 i hlt hri (by omega))) (by omega)⟩
              clear q0 q1 q2 q3 q4 q5
              go_wp2
              go_round
              case rel => exact ⟨i + 1, false, by go_num, rfl, by omega, by omega, HI, HD⟩
              case measure => simp [intOf]; omega
            · have hlt' : ¬ (i : Int) < s.size := by omega
              obtain rfl : i = s.size := by omega
              have HF : Hid (nameOk s = !b) := by
                show _ = _
                have hA := ins_all hin.out
                rw [← HL.out] at hA
                cases b
                · show nameOk s = true
                  refine (nameOk_is s).2 ⟨by rw [HL.out]; omega, by omega, hA, h3, h4, ?_⟩
                  by_cases hd : s.data.toList.drop (nLet s) = []
                  · exact .inl hd
                  · refine .inr fun h => ?_
                    have : false = true := hpl.out.2 ⟨by
                      have h5 : 0 < (s.data.toList.drop (nLet s)).length := List.length_pos_iff.2 hd
                      rw [List.length_drop, ← size_len, HL.out] at h5; omega, fun k hk h1 h2 => h s[k] (List.mem_iff_getElem.2 ⟨k - j, by rw [List.length_drop, ← size_len, HL.out]; omega, by rw [List.getElem_drop]; simp only [HL.out, show j + (k - j) = k by omega]; rfl⟩)⟩
                    cases this
                · show nameOk s = false
                  refine name_no (fun h => ?_)
                  have h6 := hpl.out.1 rfl
                  have h7 := ins_all h6.2
                  rcases h.2.2.2.2.2 with q | q
                  · have := congrArg List.length q
                    rw [List.length_drop, ← size_len, HL.out, List.length_nil] at this
                    omega
                  · rw [HL.out] at q; exact q h7
              go_wp2
              go_ret
              exact ⟨by rw [HF.out]; rfl, Below.refl _ _⟩
    · have hjl' : ¬ (j : Int) < s.size := by omega
      have HL : Hid (nLet s = j) := lets_end hlets.out (.inl (by omega)) hjs
      clear hlets
      by_cases hj0 : j = 0
      · have HF : Hid (nameOk s = false) := name_no (fun h => h.1 (HL.out.trans hj0))
        have e0 : ((j : Int) == 0) = true := by simp; omega
        clear hj0
        go_wp2
        all_goals go_ret
        all_goals exact ⟨by rw [HF.out]; rfl, Below.refl _ _⟩
      · have e0 : ((j : Int) == 0) = false := by simp; omega
        have e1 : ¬ (j : Int) = 0 := by omega
        have hj0' : 0 < j := by omega
        clear hj0
        go_wp2
        go_loop [4, 5] (fun p x => ∃ (i : Nat) (b : Bool), x = .int .i64 i ∧ p = .bool b ∧ j ≤ i ∧ i ≤ s.size ∧ Hid (Ins inB s j i) ∧ Hid (b = true ↔ (j < s.size ∧ Ins dgB s j i))) (fun _ x => s.size - (intOf x).toNat)
        case atStart => exact ⟨j, _, rfl, rfl, Nat.le_refl _, hjs, (fun k hk h1 h2 => absurd h2 (by omega)), ⟨fun h => ⟨by first | omega | (simpa using h), fun k hk h1 h2 => absurd h2 (by omega)⟩, fun h => by first | rfl | (simp; omega) | (have := h.1; omega)⟩⟩
        case round =>
          obtain ⟨i, b, rfl, rfl, hri, hi, hin, hpl⟩ := hrel
          by_cases hlt : i < s.size
          · have hlt' : (i : Int) < s.size := by omega
            exfalso
            omega
          · have hlt' : ¬ (i : Int) < s.size := by omega
            obtain rfl : i = s.size := by omega
            have HF : Hid (nameOk s = !b) := by
              show _ = _
              have hA := ins_all hin.out
              rw [← HL.out] at hA
              cases b
              · show nameOk s = true
                refine (nameOk_is s).2 ⟨by rw [HL.out]; omega, by omega, hA, h3, h4, ?_⟩
                by_cases hd : s.data.toList.drop (nLet s) = []
                · exact .inl hd
                · refine .inr fun h => ?_
                  have : false = true := hpl.out.2 ⟨by
                    have h5 : 0 < (s.data.toList.drop (nLet s)).length := List.length_pos_iff.2 hd
                    rw [List.length_drop, ← size_len, HL.out] at h5; omega, fun k hk h1 h2 => h s[k] (List.mem_iff_getElem.2 ⟨k - j, by rw [List.length_drop, ← size_len, HL.out]; omega, by rw [List.getElem_drop]; simp only [HL.out, show j + (k - j) = k by omega]; rfl⟩)⟩
                  cases this
              · show nameOk s = false
                refine name_no (fun h => ?_)
                have h6 := hpl.out.1 rfl
                have h7 := ins_all h6.2
                rcases h.2.2.2.2.2 with q | q
                · have := congrArg List.length q
                  rw [List.length_drop, ← size_len, HL.out, List.length_nil] at this
                  omega
                · rw [HL.out] at q; exact q h7
            go_wp2
            go_ret
            exact ⟨by rw [HF.out]; rfl, Below.refl _ _⟩
theorem named_any (s : ByteArray) (w : World) : Calls Tryd.prog 36 #[.string s] w fun e w' => e = .returned (.bool (nameOk s)) ∧ Below w.heap.size w w' := by
  by_cases h1 : (s.size : Int) < 1
  · rw [name_no (fun h => h.1 (by have := nLet_le s; rw [← size_len] at this; omega))]; exact named_1 s w h1
  by_cases h2 : (16 : Int) < s.size
  · rw [name_no (fun h => by have := h.2.1; omega)]; exact named_2 s w h1 h2
  cases h3 : (s.toList == [84, 82, 85, 69])
  · cases h4 : (s.toList == [70, 65, 76, 83, 69])
    · exact named_y s w h1 h2 h3 h4
    · rw [name_no (fun h => by have := h.2.2.2.2.1; rw [h4] at this; cases this)]; exact named_4 s w h1 h2 h3 h4
  · rw [name_no (fun h => by have := h.2.2.2.1; rw [h3] at this; cases this)]; exact named_3 s w h1 h2 h3
end Go.Proofs.YtekpmdpmcbjkkaaDoor
