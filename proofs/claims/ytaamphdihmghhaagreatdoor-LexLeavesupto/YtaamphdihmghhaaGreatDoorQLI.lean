/- The iterator of a text's pieces gives just these. -/
import Derived.Test.YtaamphdihmghhaaGreatDoorQLRLR2LR3
import Derived.Shelf.Abstract
import Derived.Shelf.RegionOpen
import Derived.OwnWalkIn
import Derived.TacticsInMore
import Derived.LoopNIn
import Derived.LoopIn
namespace Go.Proofs.YtaamphdihmghhaaGreatDoor
open Go.Shelf Go.RowKit
set_option linter.all false
attribute [local go_sem] Oper.semAt_some
def encP (x : Nat × List UInt8) : Array Value := #[.int .i64 x.1, .string (bs x.2)]
def strOf : Value → Nat | .string s => s.size | _ => 0
theorem trimB (s : ByteArray) (w : World) : Calls Tryz.prog 25 #[.string s, .string ⟨#[32]⟩] w fun e w' => e = .returned (.string (bs (dropB s.data.toList))) ∧ Below w.heap.size w w' :=
  trimL s ⟨#[32]⟩ w (by decide) (ascii_all (by decide))
theorem bs_data (l : List UInt8) : (bs l).data.toList = l := by simp [bs]
theorem bs_size (l : List UInt8) : (bs l).size = l.length := by simp [bs, ByteArray.size]
theorem bs_of (s : ByteArray) : bs s.data.toList = s := by simp [bs]
theorem bs_take (l : List UInt8) (k : Nat) : (bs l).extract 0 k = bs (l.take k) := by rw [← bs_of ((bs l).extract 0 k), ext_to, bs_data]
theorem bs_drop (l : List UInt8) (k : Nat) : (bs l).extract k (bs l).size = bs (l.drop k) := by rw [← bs_of ((bs l).extract k (bs l).size), ext_from, bs_data]

theorem enc_eq (n : Nat) (q : ByteArray) (K : Nat) (h : q.size ≤ n) : encP (n - q.data.toList.length, q.data.toList.take K) = #[.int .i64 ((n : Int) - (q.size : Int)), .string (q.extract 0 K)] := by
  unfold encP
  have e1 : ((n - q.data.toList.length : Nat) : Int) = (n : Int) - (q.size : Int) := by rw [← size_len]; omega
  have e2 : bs (q.data.toList.take K) = q.extract 0 K := by rw [← ext_to, bs_of]
  rw [e2]; simp only [e1]
theorem pcs_succ (f : Nat) (rest : List UInt8) (n : Nat) : pcs (f + 1) rest n = (n - (dropB rest).length, (dropB rest).take (reachL (dropB rest))) ::
      (if (dropB rest).take (reachL (dropB rest)) = [] then [] else pcs f ((dropB rest).drop (reachL (dropB rest))) n) := rfl
set_option maxHeartbeats 4000000 in
theorem pieces_gives (s : ByteArray) (B : Nat) (w0 : World) (hB : w0.cell? ⟨B, 0, none⟩ = some (.string s)) (h1 : 1 ≤ s.size) (hs : s.size < 4294967281) :
    Gives Tryz.prog 24 #[.pointer (some ⟨B, 0, none⟩)] encP (pcsOf s) (fun k => k = B) w0 := by
  intro l J Jx Ft0 W hown hF0 hJ hJx hY h0 m
  obtain ⟨hB1, hB2, hB3⟩ := hown B rfl
  have hc : W.cell? ⟨B, 0, none⟩ = some (.string s) := (World.cell?_of_block hB1).trans hB
  have h1' : (1 : Int) ≤ s.size := by omega
  have HY : Hid _ := hY
  have HJ : Hid _ := hJ
  have HJx : Hid _ := hJx
  clear hY hJ hJx hown hB hB1
  refine callsIn_wide.2 ((callsIn_wide (n := 5)).1 ?_)
  refine callsIn_of_wp Tryz.func24 rfl trivial ?_ rfl
  simp only [Tryz.ntmps24, List.size_toArray, List.length_cons, List.length_nil, Nat.reduceAdd, Nat.reduceSub, Array.replicate_succ, Array.replicate_zero, List.push_toArray, List.append_toArray, List.nil_append, List.cons_append]
  gi_wp2
  gi_loopw [3] (fun v wr => ∃ (r0 : ByteArray) (k f : Nat) (Ft : Nat → Prop), v = .string r0 ∧ J k Ft wr ∧ W.heap.size ≤ wr.heap.size ∧ (∀ b, Ft b → b < wr.heap.size) ∧ (∀ b, Ft b → Ft0 b ∨ W.heap.size ≤ b) ∧ wr.cell? ⟨B, 0, none⟩ = some (.string s) ∧
      Hid ((pcsOf s).drop k = pcs f r0.data.toList s.size ∧ r0.size < f ∧ r0.size ≤ s.size)) (fun v _ => strOf v)
  case atStart =>
    refine ⟨_, 0, s.size, Ft0, rfl, h0, Nat.le_refl _, hF0, fun b h => .inl h, hc, ?_, ?_, ?_⟩
    · rw [List.drop_zero, ext_from]; rfl
    · rw [ByteArray.size_extract]; omega
    · rw [ByteArray.size_extract]; omega
  case round =>
    obtain ⟨r0, k, f, Ft, rfl, hJw, hsz, hlt, hfr, hcw, HP⟩ := hrel
    obtain ⟨hP, hf, hrs⟩ := HP.out
    clear HP
    obtain ⟨f', rfl⟩ : ∃ f', f = f' + 1 := ⟨f - 1, by omega⟩
    rw [pcs_succ] at hP
    have hT := fun w => trimB r0 w
    have hdl := dropB_le r0.data.toList
    have ed : dropB r0.data.toList = (bs (dropB r0.data.toList)).data.toList := (bs_data _).symm
    rw [ed] at hP hdl
    rw [← size_len, ← size_len] at hdl
    revert hT hP hdl
    clear ed
    generalize bs (dropB r0.data.toList) = q
    intro hP hT hdl
    obtain ⟨K, hKe⟩ : ∃ K, reachL q.data.toList = K := ⟨_, rfl⟩
    have hKl := reachL_le q.data.toList
    have hK := fun w => reach_any q w (by unfold maxLen; omega)
    have hx : (pcsOf s)[k]? = some (s.size - q.data.toList.length, q.data.toList.take K) := by
      have h := congrArg (fun l => l[0]?) hP
      simp only [List.getElem?_drop, Nat.add_zero, List.getElem?_cons_zero, hKe] at h
      exact h
    have hnil := take_nil_iff q.data.toList
    have hps := fun h => reachL_pos (l := q.data.toList) h
    rw [hKe] at hKl hK hP hnil hps
    rw [← size_len] at hKl
    clear hKe
    have hKl' : (K : Int) ≤ q.size := by omega
    have hq1 : (q.size : Int) ≤ s.size := by omega
    have hq2 : q.size ≤ s.size := by omega
    have hq3 : s.size < 9223372036854775807 := by omega
    have hBw : B < wr.heap.size := by omega
    have hFB : ¬ Ft B := fun h => by rcases hfr B h with h2 | h2; exact hB2 h2; omega
    have HYr : Hid (∀ w2, Below wr.heap.size wr w2 → YieldAt Fence.wide 4 Tryz.prog l #[.int .i64 ((s.size : Int) - (q.size : Int)), .string (q.extract 0 K)] w2 fun e W' => ∃ Ft', Turn Ft Ft' wr W' ∧
        ((e = .returned (.bool true) ∧ J (k + 1) Ft' W') ∨ (e = .returned (.bool false) ∧ Jx (k + 1) Ft' W'))) := fun w2 hb => by
      have h := HY.out k _ Ft w2 hx (HJ.out _ _ _ _ hJw (Keep.of_below hb (Nat.le_refl _))) (Nat.le_trans hsz hb.size) (fun b h => Nat.lt_of_lt_of_le (hlt b h) hb.size) hfr 4
      rw [enc_eq _ _ _ hq2] at h
      exact h.mono fun e W' ⟨Ft', ht, hh⟩ => ⟨Ft', Turn.below hb (Nat.le_refl _) ht hlt, hh⟩
    have esz : (q.extract 0 K).size = K := by rw [ByteArray.size_extract]; omega
    have HP : Hid _ := hP
    have Hx : Hid _ := hx
    clear hP hx
    by_cases hqn : q.data.toList = []
    · have hp0 : (q.extract 0 K).toList = [] := by rw [toL, ext_to]; exact hnil.2 hqn
      have hp1 : (q.extract 0 K).toList.isEmpty = true := by rw [hp0]; rfl
      have hend : (pcsOf s).length = k + 1 := by
        have h := HP.out
        rw [if_pos (hnil.2 hqn)] at h
        have h2 := congrArg List.length h
        rw [List.length_drop, List.length_singleton] at h2
        omega
      clear hnil hps
      gi_wp2_with (first | (refine ⟨trivial, ?_⟩; gi_at_call 25; refine (callsIn_wide.2 (hT _)).mono ?_; rintro e w1 ⟨rfl, hb⟩; have hB1 : Below wr.heap.size wr w1 := hb; clear hb hT) | (refine ⟨trivial, ?_⟩; gi_at_call 26; refine (callsIn_wide.2 (hK _)).mono ?_; rintro e w2 ⟨rfl, hb⟩; have hB2 : Below wr.heap.size wr w2 := bup hB1 hb; clear hb hK; have hc2 : w2.cell? ⟨B, 0, none⟩ = some (.string s) := (hB2.cell (p := ⟨B, 0, none⟩) hBw).trans hcw; obtain ⟨fn, tmps, assign, body, hy, hR⟩ := HYr.out w2 hB2))
      refine hR.mono ?_
      rintro e W3 ⟨Ft', ht, (⟨rfl, hJ3⟩ | ⟨rfl, hJx3⟩)⟩
      · gi_wp2
        refine bodyPost_ret (results_none rfl _ _ _) rfl ?_
        refine ⟨⟨_, rfl⟩, Ft', Nat.le_trans hsz ht.size, fun b h => (ht.foot b h).2, fun b h => ?_, .inl (by rw [hend]; exact hJ3)⟩
        rcases (ht.foot b h).1 with h2 | h2
        · exact hfr b h2
        · exact .inr (by omega)
      · gi_wp2
        refine bodyPost_ret (results_none rfl _ _ _) rfl ?_
        refine ⟨⟨_, rfl⟩, Ft', Nat.le_trans hsz ht.size, fun b h => (ht.foot b h).2, fun b h => ?_, .inr ⟨k, by omega, hJx3⟩⟩
        rcases (ht.foot b h).1 with h2 | h2
        · exact hfr b h2
        · exact .inr (by omega)
    · have hK1 := hps hqn
      have hp0 : ¬ (q.extract 0 K).toList = [] := by rw [toL, ext_to]; exact fun h => hqn (hnil.1 h)
      have hp1 : (q.extract 0 K).toList.isEmpty = false := by cases h2 : (q.extract 0 K).toList; exact absurd h2 hp0; rfl
      have hP2 : (pcsOf s).drop (k + 1) = pcs f' (q.data.toList.drop K) s.size ∧ k < (pcsOf s).length := by
        have h := HP.out
        rw [if_neg (fun h => hqn (hnil.1 h))] at h
        constructor
        · rw [← List.drop_drop, h]; rfl
        · have h2 := congrArg List.length h
          rw [List.length_drop, List.length_cons] at h2
          omega
      have HP2 : Hid _ := hP2
      clear hnil hps hP2
      gi_wp2_with (first | (refine ⟨trivial, ?_⟩; gi_at_call 25; refine (callsIn_wide.2 (hT _)).mono ?_; rintro e w1 ⟨rfl, hb⟩; have hB1 : Below wr.heap.size wr w1 := hb; clear hb hT) | (refine ⟨trivial, ?_⟩; gi_at_call 26; refine (callsIn_wide.2 (hK _)).mono ?_; rintro e w2 ⟨rfl, hb⟩; have hB2 : Below wr.heap.size wr w2 := bup hB1 hb; clear hb hK; have hc2 : w2.cell? ⟨B, 0, none⟩ = some (.string s) := (hB2.cell (p := ⟨B, 0, none⟩) hBw).trans hcw; obtain ⟨fn, tmps, assign, body, hy, hR⟩ := HYr.out w2 hB2))
      refine hR.mono ?_
      rintro e W3 ⟨Ft', ht, (⟨rfl, hJ3⟩ | ⟨rfl, hJx3⟩)⟩
      · have hc3 : W3.cell? ⟨B, 0, none⟩ = some (.string s) := (World.cell?_of_block (ht.block B hBw hFB)).trans hcw
        gi_wp2
        go_roundw
        case rel =>
          refine ⟨_, k + 1, f', Ft', rfl, hJ3, Nat.le_trans hsz ht.size, fun b h => (ht.foot b h).2, fun b h => ?_, hc3, ?_, ?_, ?_⟩
          · rcases (ht.foot b h).1 with h2 | h2
            · exact hfr b h2
            · exact .inr (by omega)
          · rw [HP2.out.1, ext_from]
          · rw [ByteArray.size_extract]; omega
          · rw [ByteArray.size_extract]; omega
        case measure => simp [strOf]; omega
      · gi_wp2
        refine bodyPost_ret (results_none rfl _ _ _) rfl ?_
        refine ⟨⟨_, rfl⟩, Ft', Nat.le_trans hsz ht.size, fun b h => (ht.foot b h).2, fun b h => ?_, .inr ⟨k, HP2.out.2, hJx3⟩⟩
        rcases (ht.foot b h).1 with h2 | h2
        · exact hfr b h2
        · exact .inr (by omega)
end Go.Proofs.YtaamphdihmghhaaGreatDoor
