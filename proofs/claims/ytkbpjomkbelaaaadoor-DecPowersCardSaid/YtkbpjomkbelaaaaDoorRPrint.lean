/- The contract of the document's Print: of every int64 the very text that dec.Print writes (printB). New memory alone is made. No condition but that the argument is an int64. -/
import Derived.Test.YtkbpjomkbelaaaaDoorRDec
import Derived.Test.YtkbpjomkbelaaaaDoorPrint
import Derived.Lib.Walk
import Derived.Deep.DeepCutAuto
namespace Go.Proofs.YtkbpjomkbelaaaaDoor
open Go.Shelf Go.RowKit
set_option linter.all false
theorem rsize_n (n : Nat) (x : Int) (l : Bool) (w : World) (h : (x = n ∧ 0 ≤ x ∧ l = false) ∨ (x = -(n : Int) ∧ x < 0 ∧ l = true)) (hn : n ≤ 9223372036854775807) : Calls Tryd.prog 18 #[.int .i64 x] w fun e w' => e = .returned (.tuple #[.int .u64 n, .bool l]) ∧ w' = w := by
  rcases h with ⟨hx, h0, rfl⟩ | ⟨hx, h0, rfl⟩
  · have h1 : ¬ x < 0 := by omega
    go_enter Tryd.func18, Tryd.ntmps18
    go_wp2
    go_ret2
    exact ⟨rfl, rfl⟩
  · go_enter Tryd.func18, Tryd.ntmps18
    go_wp2
    go_ret2
    exact ⟨rfl, rfl⟩
theorem rdec_ip (q : Int) (n : Nat) (hq : q = ((n / 10000 : Nat) : Int)) (hn : n ≤ 9223372036854775807) (w : World) : Calls Tryd.prog 33 #[.int .u64 q] w fun e w' => e = .returned (.string (ipB n)) ∧ Below w.heap.size w w' := by
  subst hq
  exact rdec_any (n / 10000) (by omega) w
/-- The four digits behind the point. -/
def dgt (n : Nat) : List UInt8 := (Lib.decDigits (10000 + n % 10000)).drop 1
def dB (k : Nat) : UInt8 := UInt8.ofNat (48 + k)
theorem dgt_eq (n : Nat) : dgt n = [dB (n % 10000 / 1000), dB (n % 10000 / 100 % 10), dB (n % 10000 / 10 % 10), dB (n % 10000 % 10)] := by
  unfold dgt dB
  rw [dd_step (10000 + n % 10000) (by omega), dd_step ((10000 + n % 10000) / 10) (by omega), dd_step ((10000 + n % 10000) / 10 / 10) (by omega), dd_step ((10000 + n % 10000) / 10 / 10 / 10) (by omega), Lib.decDigits_one (show (10000 + n % 10000) / 10 / 10 / 10 / 10 < 10 by omega)]
  simp only [List.cons_append, List.nil_append, List.drop_succ_cons, List.drop_zero]
  rw [show (10000 + n % 10000) / 10 / 10 / 10 % 10 = n % 10000 / 1000 by omega, show (10000 + n % 10000) / 10 / 10 % 10 = n % 10000 / 100 % 10 by omega, show (10000 + n % 10000) / 10 % 10 = n % 10000 / 10 % 10 by omega, show (10000 + n % 10000) % 10 = n % 10000 % 10 by omega]
/-- What is left behind k digits. -/
def rk (n : Nat) : Nat → Nat
  | 0 => n % 10000
  | 1 => n % 10000 % 1000 * 10
  | 2 => n % 10000 % 100 * 100
  | 3 => n % 10000 % 10 * 1000
  | _ => 0
theorem rk_lt (n k : Nat) : rk n k < 10000 := by
  match k with
  | 0 => simp only [rk]; omega
  | 1 => simp only [rk]; omega
  | 2 => simp only [rk]; omega
  | 3 => simp only [rk]; omega
  | k + 4 => simp only [rk]; omega
theorem rk_step (n k : Nat) (h : k < 4) : rk n (k + 1) = rk n k % 1000 * 10 := by
  obtain rfl | rfl | rfl | rfl : k = 0 ∨ k = 1 ∨ k = 2 ∨ k = 3 := by omega
  all_goals simp only [rk]
  all_goals omega
theorem rk_dig (n k : Nat) (h : k < 4) : (dgt n)[k]? = some (dB (rk n k / 1000)) := by
  rw [dgt_eq]
  obtain rfl | rfl | rfl | rfl : k = 0 ∨ k = 1 ∨ k = 2 ∨ k = 3 := by omega
  · rfl
  · show some (dB (n % 10000 / 100 % 10)) = some (dB (n % 10000 % 1000 * 10 / 1000)); rw [show n % 10000 / 100 % 10 = n % 10000 % 1000 * 10 / 1000 by omega]
  · show some (dB (n % 10000 / 10 % 10)) = some (dB (n % 10000 % 100 * 100 / 1000)); rw [show n % 10000 / 10 % 10 = n % 10000 % 100 * 100 / 1000 by omega]
  · exact congrArg (fun x => some (dB x)) (show n % 10000 % 10 = n % 10000 % 10 * 1000 / 1000 by omega)
theorem dB_0 : dB 0 = 48 := by decide
theorem dB_ne (k : Nat) (h : k < 10) (h0 : k ≠ 0) : (dB k == 48) = false := by
  obtain rfl | rfl | rfl | rfl | rfl | rfl | rfl | rfl | rfl : k = 1 ∨ k = 2 ∨ k = 3 ∨ k = 4 ∨ k = 5 ∨ k = 6 ∨ k = 7 ∨ k = 8 ∨ k = 9 := by omega
  all_goals decide
theorem rk_end (n k : Nat) (hk : k ≤ 4) (h0 : rk n k = 0) (hp : ∀ j, j < k → rk n j ≠ 0) (hR : n % 10000 ≠ 0) : Lib.trimRightB (dgt n) 48 = (dgt n).take k := by
  rw [dgt_eq]
  unfold Lib.trimRightB
  obtain rfl | rfl | rfl | rfl | rfl : k = 0 ∨ k = 1 ∨ k = 2 ∨ k = 3 ∨ k = 4 := by omega
  · exact absurd h0 hR
  · have a := hp 0 (by decide)
    simp only [rk] at h0 a
    rw [show n % 10000 / 100 % 10 = 0 by omega, show n % 10000 / 10 % 10 = 0 by omega, show n % 10000 % 10 = 0 by omega, dB_0]
    have e := dB_ne (n % 10000 / 1000) (by omega) (by omega)
    simp [List.dropWhile, e]
  · have a := hp 1 (by decide)
    simp only [rk] at h0 a
    rw [show n % 10000 / 10 % 10 = 0 by omega, show n % 10000 % 10 = 0 by omega, dB_0]
    have e := dB_ne (n % 10000 / 100 % 10) (by omega) (by omega)
    simp [List.dropWhile, e]
  · have a := hp 2 (by decide)
    simp only [rk] at h0 a
    rw [show n % 10000 % 10 = 0 by omega, dB_0]
    have e := dB_ne (n % 10000 / 10 % 10) (by omega) (by omega)
    simp [List.dropWhile, e]
  · have a := hp 3 (by decide)
    simp only [rk] at h0 a
    have e := dB_ne (n % 10) (by omega) (by omega)
    simp [List.dropWhile, e]
/-- What is written behind k digits. -/
def tx (B : ByteArray) (n k : Nat) : ByteArray := B ++ (⟨#[46]⟩ ++ ⟨((dgt n).take k).toArray⟩)
theorem tx_0 (B : ByteArray) (n : Nat) : B ++ ⟨#[46]⟩ = tx B n 0 := by
  unfold tx
  rw [List.take_zero]
  rfl
theorem dgt_len (n : Nat) : (dgt n).length = 4 := by rw [dgt_eq]; rfl
theorem tx_size (B : ByteArray) (n k : Nat) (h : k ≤ 4) : (tx B n k).size = B.size + 1 + k := by
  unfold tx
  rw [ByteArray.size_append, ByteArray.size_append]
  show B.size + (1 + ((dgt n).take k).toArray.size) = B.size + 1 + k
  rw [List.size_toArray, List.length_take, dgt_len]
  omega
theorem tx_step (B : ByteArray) (n k : Nat) (h : k < 4) : tx B n k ++ ⟨#[dB (rk n k / 1000)]⟩ = tx B n (k + 1) := by
  unfold tx
  rw [List.take_succ, rk_dig n k h]
  apply ByteArray.ext
  simp
theorem tx_end (B : ByteArray) (n k : Nat) (hk : k ≤ 4) (h0 : rk n k = 0) (hp : ∀ j, j < k → rk n j ≠ 0) (hR : n % 10000 ≠ 0) : tx B n k = B ++ (⟨#[46]⟩ ++ frB n) := by
  unfold tx frB
  rw [← rk_end n k hk h0 hp hR]
  rfl
def szOf : Value → Nat
  | .string s => s.size
  | _ => 0
theorem retS {a b : ByteArray} (h : a = b) : Ending.returned (.string a) = .returned (.string b) := by rw [h]
set_option maxRecDepth 10000 in
set_option maxHeartbeats 1000000 in
theorem rprint_pw (x : Int) (n : Nat) (w : World) (hx : x = n) (hx0 : 0 ≤ x) (hr : n % 10000 = 0) (hn : n ≤ 9223372036854775807) : Calls Tryd.prog 12 #[.int .i64 x] w fun e w' => e = .returned (.string ((ipB n))) ∧ Below w.heap.size w w' := by
  have h1 := ipB_size n hn
  have hi : I64 x := ⟨by omega, by omega⟩
  have hm : mayOk x = true := mayOk_t (by omega)
  have HSZ := Lib.hid (fun w => rsize_n n x false w (.inl ⟨hx, hx0, rfl⟩) hn)
  have hr' : (n : Int) % 10000 = 0 := by omega
  clear hx
  go_enter Tryd.func12, Tryd.ntmps12
  go_wp2_with (first | (go_at_call 14; refine (rmayAny _ _ hi).mono ?_; rintro e w ⟨rfl, rfl⟩) | (go_at_call 18; refine (HSZ.out _).mono ?_; rintro e w ⟨rfl, rfl⟩) | (go_at_call 33; refine (rdec_ip _ n (by omega) hn _).mono ?_; rintro e w1 ⟨rfl, hb1⟩))
  go_ret
  exact ⟨rfl, hb1⟩
set_option maxRecDepth 10000 in
set_option maxHeartbeats 1000000 in
theorem rprint_nw (x : Int) (n : Nat) (w : World) (hx : x = -(n : Int)) (hx0 : x < 0) (hr : n % 10000 = 0) (hn : n ≤ 9223372036854775807) : Calls Tryd.prog 12 #[.int .i64 x] w fun e w' => e = .returned (.string ((⟨#[45]⟩ ++ ipB n))) ∧ Below w.heap.size w w' := by
  have h1 := ipB_size n hn
  have hi : I64 x := ⟨by omega, by omega⟩
  have hm : mayOk x = true := mayOk_t (by omega)
  have HSZ := Lib.hid (fun w => rsize_n n x true w (.inr ⟨hx, hx0, rfl⟩) hn)
  have hr' : (n : Int) % 10000 = 0 := by omega
  clear hx
  go_enter Tryd.func12, Tryd.ntmps12
  go_wp2_with (first | (go_at_call 14; refine (rmayAny _ _ hi).mono ?_; rintro e w ⟨rfl, rfl⟩) | (go_at_call 18; refine (HSZ.out _).mono ?_; rintro e w ⟨rfl, rfl⟩) | (go_at_call 33; refine (rdec_ip _ n (by omega) hn _).mono ?_; rintro e w1 ⟨rfl, hb1⟩))
  go_ret
  exact ⟨rfl, hb1⟩
set_option maxRecDepth 10000 in
set_option maxHeartbeats 1000000 in
theorem rprint_pf (x : Int) (n : Nat) (w : World) (hx : x = n) (hx0 : 0 ≤ x) (hr : n % 10000 ≠ 0) (hn : n ≤ 9223372036854775807) : Calls Tryd.prog 12 #[.int .i64 x] w fun e w' => e = .returned (.string ((ipB n) ++ (⟨#[46]⟩ ++ frB n))) ∧ Below w.heap.size w w' := by
  have h1 := ipB_size n hn
  have hi : I64 x := ⟨by omega, by omega⟩
  have hm : mayOk x = true := mayOk_t (by omega)
  have HSZ := Lib.hid (fun w => rsize_n n x false w (.inl ⟨hx, hx0, rfl⟩) hn)
  have hr' : (n : Int) % 10000 ≠ 0 := by omega
  have hrq : ((n : Int) % 10000 == 0) = false := by simp; omega
  have HR := Lib.hid hr
  clear hr
  clear hx
  go_enter Tryd.func12, Tryd.ntmps12
  go_wp2_with (first | (go_at_call 14; refine (rmayAny _ _ hi).mono ?_; rintro e w ⟨rfl, rfl⟩) | (go_at_call 18; refine (HSZ.out _).mono ?_; rintro e w ⟨rfl, rfl⟩) | (go_at_call 33; refine (rdec_ip _ n (by omega) hn _).mono ?_; rintro e w1 ⟨rfl, hb1⟩))
  go_loopw [5, 6] (fun s r wr => ∃ k : Nat, k ≤ 4 ∧ s = .string (tx (ipB n) n k) ∧ r = .int .u64 (rk n k : Nat) ∧ (∀ j, j < k → rk n j ≠ 0) ∧ Below w.heap.size w wr) (fun s _ _ => 40 - szOf s)
  case atStart => exact ⟨0, by omega, by rw [← tx_0], by show _ = Value.int .u64 ((n % 10000 : Nat) : Int); rw [show ((n % 10000 : Nat) : Int) = (n : Int) % 10000 by omega], fun j hj => absurd hj (by omega), hb1⟩
  case round =>
    obtain ⟨k, hk, rfl, rfl, hp, hB⟩ := hrel
    have hlt := rk_lt n k
    have hsz := tx_size (ipB n) n k hk
    have HP := Lib.hid hp
    clear hp
    have hsB : ((ipB n) : ByteArray).size ≤ 21 := by omega
    by_cases h0 : rk n k = 0
    · have HE := Lib.hid (tx_end (ipB n) n k hk h0 HP.out HR.out)
      have h0' : ¬ (0 : Int) < (rk n k : Nat) := by omega
      clear h0
      go_wp2
      go_ret
      exact ⟨retS HE.out, hB⟩
    · have hk4 : k < 4 := by
        apply Nat.lt_of_not_le
        intro hge
        obtain rfl : k = 4 := by omega
        exact h0 rfl
      have h0' : (0 : Int) < (rk n k : Nat) := by omega
      have hlt' : ((rk n k : Nat) : Int) < 10000 := by omega
      have HST := Lib.hid (tx_step (ipB n) n k hk4)
      have HRK := Lib.hid (rk_step n k hk4)
      have H0 := Lib.hid h0
      have HSZ2 := Lib.hid hsz
      have hs9 : ¬ 9223372036854775807 < (tx (ipB n) n k).size + 1 := by omega
      have HB8 := Lib.hid (show (48 + ((rk n k : Nat) : Int) / 1000) = ((dB (rk n k / 1000)).toNat : Int) by have := dig_byte (rk n k / 1000) (by omega); unfold dB; omega)
      have HK4 := Lib.hid hk4
      have HSB := Lib.hid hsB
      clear h0 hsz hk hk4 hsB h1
      generalize hX : tx (ipB n) n k = X at *
      generalize hY : rk n k = r at *
      generalize hZ : dB (r / 1000) = b8 at *
      have HX := Lib.hid hX
      have HY := Lib.hid hY
      have HZ := Lib.hid hZ
      have hcv := fun (W : World) (T : TypeId) => conv1 (48 + (r : Int) / 1000) b8 HB8.out (W.alloc (.cells #[.int .u8 (48 + (r : Int) / 1000)] T)) W.heap.size (World.cell?_alloc_new W _ T 0)
      clear hX hY hZ hlt
      have x1 : IntKind.u64.wrap ((r : Int) / 1000) = (r : Int) / 1000 := by rw [wrapU]; omega
      have x2 : IntKind.u64.wrap (48 + (r : Int) / 1000) = 48 + (r : Int) / 1000 := by rw [wrapU]; omega
      have x3 : IntKind.u8.wrap (48 + (r : Int) / 1000) = 48 + (r : Int) / 1000 := by simp [IntKind.wrap, IntKind.bits, IntKind.signed]; omega
      have x4 : (r : Int).tmod 1000 = (r : Int) % 1000 := Int.tmod_eq_emod_of_nonneg (by omega)
      have x5 : IntKind.u64.wrap ((r : Int) % 1000 * 10) = (r : Int) % 1000 * 10 := by rw [wrapU]; omega
      have x6 : (r : Int).tdiv 1000 = (r : Int) / 1000 := Int.tdiv_eq_ediv_of_nonneg (by omega)
      clear hlt'
      go_wp2
      go_roundw
      case rel => exact ⟨k + 1, by have := HK4.out; omega, by rw [← HST.out], by rw [HRK.out]; exact congrArg (Value.int .u64) (by omega), fun j hj => by
        by_cases hjk : j < k
        · exact HP.out j hjk
        · obtain rfl : j = k := by omega
          rw [HY.out]; exact H0.out, hB.alloc hB.size _⟩
      case measure => have e1 := HSB.out; have e2 := HK4.out; simp only [szOf]; rw [HST.out, tx_size (ipB n) n (k + 1) (by omega), HSZ2.out]; omega
set_option maxRecDepth 10000 in
set_option maxHeartbeats 1000000 in
theorem rprint_nf (x : Int) (n : Nat) (w : World) (hx : x = -(n : Int)) (hx0 : x < 0) (hr : n % 10000 ≠ 0) (hn : n ≤ 9223372036854775807) : Calls Tryd.prog 12 #[.int .i64 x] w fun e w' => e = .returned (.string ((⟨#[45]⟩ ++ ipB n) ++ (⟨#[46]⟩ ++ frB n))) ∧ Below w.heap.size w w' := by
  have h1 := ipB_size n hn
  have hi : I64 x := ⟨by omega, by omega⟩
  have hm : mayOk x = true := mayOk_t (by omega)
  have HSZ := Lib.hid (fun w => rsize_n n x true w (.inr ⟨hx, hx0, rfl⟩) hn)
  have hr' : (n : Int) % 10000 ≠ 0 := by omega
  have hrq : ((n : Int) % 10000 == 0) = false := by simp; omega
  have HR := Lib.hid hr
  clear hr
  clear hx
  go_enter Tryd.func12, Tryd.ntmps12
  go_wp2_with (first | (go_at_call 14; refine (rmayAny _ _ hi).mono ?_; rintro e w ⟨rfl, rfl⟩) | (go_at_call 18; refine (HSZ.out _).mono ?_; rintro e w ⟨rfl, rfl⟩) | (go_at_call 33; refine (rdec_ip _ n (by omega) hn _).mono ?_; rintro e w1 ⟨rfl, hb1⟩))
  go_loopw [5, 6] (fun s r wr => ∃ k : Nat, k ≤ 4 ∧ s = .string (tx (⟨#[45]⟩ ++ ipB n) n k) ∧ r = .int .u64 (rk n k : Nat) ∧ (∀ j, j < k → rk n j ≠ 0) ∧ Below w.heap.size w wr) (fun s _ _ => 40 - szOf s)
  case atStart => exact ⟨0, by omega, by rw [← tx_0], by show _ = Value.int .u64 ((n % 10000 : Nat) : Int); rw [show ((n % 10000 : Nat) : Int) = (n : Int) % 10000 by omega], fun j hj => absurd hj (by omega), hb1⟩
  case round =>
    obtain ⟨k, hk, rfl, rfl, hp, hB⟩ := hrel
    have hlt := rk_lt n k
    have hsz := tx_size (⟨#[45]⟩ ++ ipB n) n k hk
    have HP := Lib.hid hp
    clear hp
    have hsB : ((⟨#[45]⟩ ++ ipB n) : ByteArray).size ≤ 21 := by rw [ByteArray.size_append]; have : (⟨#[45]⟩ : ByteArray).size = 1 := rfl; omega
    by_cases h0 : rk n k = 0
    · have HE := Lib.hid (tx_end (⟨#[45]⟩ ++ ipB n) n k hk h0 HP.out HR.out)
      have h0' : ¬ (0 : Int) < (rk n k : Nat) := by omega
      clear h0
      go_wp2
      go_ret
      exact ⟨retS HE.out, hB⟩
    · have hk4 : k < 4 := by
        apply Nat.lt_of_not_le
        intro hge
        obtain rfl : k = 4 := by omega
        exact h0 rfl
      have h0' : (0 : Int) < (rk n k : Nat) := by omega
      have hlt' : ((rk n k : Nat) : Int) < 10000 := by omega
      have HST := Lib.hid (tx_step (⟨#[45]⟩ ++ ipB n) n k hk4)
      have HRK := Lib.hid (rk_step n k hk4)
      have H0 := Lib.hid h0
      have HSZ2 := Lib.hid hsz
      have hs9 : ¬ 9223372036854775807 < (tx (⟨#[45]⟩ ++ ipB n) n k).size + 1 := by omega
      have HB8 := Lib.hid (show (48 + ((rk n k : Nat) : Int) / 1000) = ((dB (rk n k / 1000)).toNat : Int) by have := dig_byte (rk n k / 1000) (by omega); unfold dB; omega)
      have HK4 := Lib.hid hk4
      have HSB := Lib.hid hsB
      clear h0 hsz hk hk4 hsB h1
      generalize hX : tx (⟨#[45]⟩ ++ ipB n) n k = X at *
      generalize hY : rk n k = r at *
      generalize hZ : dB (r / 1000) = b8 at *
      have HX := Lib.hid hX
      have HY := Lib.hid hY
      have HZ := Lib.hid hZ
      have hcv := fun (W : World) (T : TypeId) => conv1 (48 + (r : Int) / 1000) b8 HB8.out (W.alloc (.cells #[.int .u8 (48 + (r : Int) / 1000)] T)) W.heap.size (World.cell?_alloc_new W _ T 0)
      clear hX hY hZ hlt
      have x1 : IntKind.u64.wrap ((r : Int) / 1000) = (r : Int) / 1000 := by rw [wrapU]; omega
      have x2 : IntKind.u64.wrap (48 + (r : Int) / 1000) = 48 + (r : Int) / 1000 := by rw [wrapU]; omega
      have x3 : IntKind.u8.wrap (48 + (r : Int) / 1000) = 48 + (r : Int) / 1000 := by simp [IntKind.wrap, IntKind.bits, IntKind.signed]; omega
      have x4 : (r : Int).tmod 1000 = (r : Int) % 1000 := Int.tmod_eq_emod_of_nonneg (by omega)
      have x5 : IntKind.u64.wrap ((r : Int) % 1000 * 10) = (r : Int) % 1000 * 10 := by rw [wrapU]; omega
      have x6 : (r : Int).tdiv 1000 = (r : Int) / 1000 := Int.tdiv_eq_ediv_of_nonneg (by omega)
      clear hlt'
      go_wp2
      go_roundw
      case rel => exact ⟨k + 1, by have := HK4.out; omega, by rw [← HST.out], by rw [HRK.out]; exact congrArg (Value.int .u64) (by omega), fun j hj => by
        by_cases hjk : j < k
        · exact HP.out j hjk
        · obtain rfl : j = k := by omega
          rw [HY.out]; exact H0.out, hB.alloc hB.size _⟩
      case measure => have e1 := HSB.out; have e2 := HK4.out; simp only [szOf]; rw [HST.out, tx_size (⟨#[45]⟩ ++ ipB n) n (k + 1) (by omega), HSZ2.out]; omega
theorem app3 (a b c : ByteArray) : a ++ b ++ c = a ++ (b ++ c) := by
  apply ByteArray.ext; simp
theorem rprint_any (x : Int) (w : World) (hx : I64 x) : Calls Tryd.prog 12 #[.int .i64 x] w fun e w' => e = .returned (.string (printB x)) ∧ Below w.heap.size w w' := by
  have hi := hx
  obtain ⟨hx1, hx2⟩ := hx
  unfold printB numB
  by_cases hm : x = -9223372036854775808
  · rw [if_pos hm]
    have hk : mayOk x = false := mayOk_f hm
    clear hm
    go_enter Tryd.func12, Tryd.ntmps12
    go_wp2_with (go_at_call 14; refine (rmayAny _ _ hi).mono ?_; rintro e w' ⟨rfl, rfl⟩)
    go_ret
    exact ⟨rfl, Below.refl _ _⟩
  rw [if_neg hm]
  by_cases h0 : x < 0
  · rw [if_pos h0]
    by_cases hr : x.natAbs % 10000 = 0
    · rw [if_pos hr]; exact rprint_nw x x.natAbs w (by omega) h0 hr (by omega)
    · rw [if_neg hr, ← app3]; exact rprint_nf x x.natAbs w (by omega) h0 hr (by omega)
  · rw [if_neg h0]
    by_cases hr : x.natAbs % 10000 = 0
    · rw [if_pos hr]; exact rprint_pw x x.natAbs w (by omega) (by omega) hr (by omega)
    · rw [if_neg hr]; exact rprint_pf x x.natAbs w (by omega) (by omega) hr (by omega)
end Go.Proofs.YtkbpjomkbelaaaaDoor
