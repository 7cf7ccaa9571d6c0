/- Every function of the table answers one value that may be, of as many numbers as it takes; what Call answers of any arguments. -/
import Derived.Test.YtfpbcokfianjaaaNTk
import Derived.Test.YtfpbcokfianjaaaNTh
namespace Go.Proofs.Ytfpbcokfianjaaa
open Go.RowKit
set_option linter.all false
theorem may_err {c : Int} (h1 : 1 ≤ c) (h2 : c ≤ 8) : mayB 4 0 ⟨#[]⟩ false c = true := by simp [mayB]; omega
theorem may_tv {x c : Int} (hx : In x) (hc : c = 0 ∨ (1 ≤ c ∧ c ≤ 8 ∧ x = 0)) : mayB (tT c) x ⟨#[]⟩ false c = true := by
  rcases hc with rfl | ⟨h1, h2, rfl⟩
  · exact may_num hx
  · rw [show tT c = 4 from if_neg (by omega)]; exact may_err h1 h2
theorem may_bool (b : Bool) : mayB 3 0 ⟨#[]⟩ b 0 = true := by cases b <;> simp [mayB]
/-- A function answers one value that may be. -/
def Ans (f : FuncId) (n : Nat) (l : List Int) : Prop := ∃ (rt rn : Int) (rs : ByteArray) (rb : Bool) (rc : Int), (mayB rt rn rs rb rc = true ∧ I64 rn) ∧ ∀ (W : World) (b : Nat), NB W b l → Calls Try.prog f #[.slice (some ⟨b, 0, none⟩) n n] W fun e w' => e = .returned (.agg #[.int .i64 rt, .int .i64 rn, .string rs, .bool rb, .int .i64 rc]) ∧ Below W.heap.size W w'
theorem Ans.num {f : FuncId} {n : Nat} {l : List Int} {x : Int} (hx : In x) (h : ∀ (W : World) (b : Nat), NB W b l → Calls Try.prog f #[.slice (some ⟨b, 0, none⟩) n n] W fun e w' => e = .returned (.agg #[.int .i64 (1), .int .i64 (x), .string ⟨#[]⟩, .bool false, .int .i64 (0)]) ∧ Below W.heap.size W w') : Ans f n l := ⟨1, x, ⟨#[]⟩, false, 0, ⟨may_num hx, hx.i64⟩, h⟩
theorem Ans.err {f : FuncId} {n : Nat} {l : List Int} {c : Int} (h1 : 1 ≤ c) (h2 : c ≤ 8) (h : ∀ (W : World) (b : Nat), NB W b l → Calls Try.prog f #[.slice (some ⟨b, 0, none⟩) n n] W fun e w' => e = .returned (.agg #[.int .i64 (4), .int .i64 (0), .string ⟨#[]⟩, .bool false, .int .i64 (c)]) ∧ Below W.heap.size W w') : Ans f n l := ⟨4, 0, ⟨#[]⟩, false, c, ⟨may_err h1 h2, in0.i64⟩, h⟩
theorem Ans.tv {f : FuncId} {n : Nat} {l : List Int} {x c : Int} (hx : In x) (hc : c = 0 ∨ (1 ≤ c ∧ c ≤ 8 ∧ x = 0)) (h : ∀ (W : World) (b : Nat), NB W b l → Calls Try.prog f #[.slice (some ⟨b, 0, none⟩) n n] W fun e w' => e = .returned (.agg #[.int .i64 (tT (c)), .int .i64 (x), .string ⟨#[]⟩, .bool false, .int .i64 (c)]) ∧ Below W.heap.size W w') : Ans f n l := ⟨tT c, x, ⟨#[]⟩, false, c, ⟨may_tv hx hc, hx.i64⟩, h⟩
theorem len1 {l : List Int} (h : l.length = 1) : ∃ x, l = [x] := by
  match l, h with
  | [x], _ => exact ⟨x, rfl⟩
theorem len2 {l : List Int} (h : l.length = 2) : ∃ x y, l = [x, y] := by
  match l, h with
  | [x, y], _ => exact ⟨x, y, rfl⟩
theorem len3 {l : List Int} (h : l.length = 3) : ∃ x y z, l = [x, y, z] := by
  match l, h with
  | [x, y, z], _ => exact ⟨x, y, z, rfl⟩
theorem has_bd {k : Nat} {n : Nat} {lo hi : Int} (h : hasB lo hi (n : Int) = true) : lo ≤ n ∧ (n : Int) ≤ hi := by unfold hasB at h; simpa using h
theorem neg_in {s : Int} (h : In s) : In (-s) := ⟨by have := h.2; omega, by have := h.1; omega⟩
theorem ans_floor (x s : Int) (hx : In x) (hs : In s) : Ans 38 2 [x, s] := by
  by_cases h0 : 0 < s
  · exact Ans.tv (sub_in hx) (okVC _ _) fun W b h => floor_ok x s b W h h0 hx hs
  · exact Ans.err (c := 8) (by decide) (by decide) fun W b h => floor_no x s b W h (by omega) hs
theorem ans_ceil (x s : Int) (hx : In x) (hs : In s) : Ans 39 2 [x, s] := by
  by_cases h0 : 0 < s
  · exact Ans.tv (sub_in hx) (okVC _ _) fun W b h => ceil_ok x s b W h h0 hx hs
  · exact Ans.err (c := 8) (by decide) (by decide) fun W b h => ceil_no x s b W h (by omega) hs
theorem ans_quot (x s : Int) (hx : In x) (hs : In s) : Ans 41 2 [x, s] := by
  by_cases h0 : s = 0
  · exact Ans.err (c := 3) (by decide) (by decide) fun W b h => quo_no x s b W h h0
  · exact Ans.tv quo_in (okVC _ _) fun W b h => quo_ok x s b W h hx hs h0
theorem ans_power (x y : Int) (hx : In x) (hy : In y) : Ans 42 2 [x, y] := by
  cases hw : wholeOk y
  · exact Ans.err (c := 8) (by decide) (by decide) fun W b h => power_no x y b W h hy hw
  · exact Ans.tv (powX_in x (plc y)) (powXC x (plc y)) fun W b h => power_ok x y b W h hx hy hw
theorem ans_round2 (x y : Int) (hx : In x) (hy : In y) : Ans 37 2 [x, y] := by
  cases hw : wholeOk y
  · exact Ans.err (c := 8) (by decide) (by decide) fun W b h => round_no x y b W h hy hw
  · exact Ans.tv (rou_in hx) (okVC _ _) fun W b h => round_2 x y b W h hx hy hw
theorem ans_trunc2 (x y : Int) (hx : In x) (hy : In y) : Ans 36 2 [x, y] := by
  cases hw : wholeOk y
  · exact Ans.err (c := 8) (by decide) (by decide) fun W b h => trunc2_no x y b W h hy hw
  · by_cases h3 : 3 < plc y
    · exact Ans.num hx fun W b h => trunc2_hi x y b W h hx hy hw h3
    by_cases h4 : plc y ≤ -15
    · exact Ans.num in0 fun W b h => trunc2_lo x y b W h hy hw h4
    · exact Ans.num (trunc_in hx (u := ((10 ^ (4 - plc y).toNat : Nat) : Int)) (Int.natCast_pos.2 (Nat.pow_pos (by decide)))) fun W b h => trunc2_in x y (4 - plc y).toNat b W h hx hy hw (by omega) (by omega) (by omega)
theorem ans_root (x : Int) (hx : In x) : Ans 43 1 [x] := by
  by_cases h0 : 0 ≤ x
  · by_cases hi : In (rootX x)
    · exact Ans.num hi fun W b h => (root_ok x b W h hx h0).mono fun e w' ⟨⟨he, _⟩, hb⟩ => ⟨he, hb⟩
    · exact Ans.num in0 fun W b h => (root_ok x b W h hx h0).mono fun e w' ⟨⟨_, hq⟩, _⟩ => absurd hq hi
  · exact Ans.err (c := 8) (by decide) (by decide) fun W b h => root_no x b W h hx (by omega)
theorem fact_in {x : Int} (h0 : 0 ≤ x) (h : x / 10000 ≤ 17) : In ((fct (x / 10000).toNat : Int) * 10000) := by
  have := fct_le (x / 10000).toNat (by omega)
  exact ⟨by omega, by omega⟩
theorem ans_fact (x : Int) (hx : In x) : Ans 46 1 [x] := by
  cases hw : wholeOk x
  · exact Ans.err (c := 8) (by decide) (by decide) fun W b h => fact_no x b W h hx hw
  · by_cases h0 : 0 ≤ x
    · by_cases h17 : x / 10000 ≤ 17
      · exact Ans.num (fact_in h0 h17) fun W b h => by have q := fact_ok x b W h hx hw h0; unfold factV at q; rw [if_pos h17] at q; exact q
      · exact Ans.err (c := 2) (by decide) (by decide) fun W b h => by have q := fact_ok x b W h hx hw h0; unfold factV at q; rw [if_neg h17] at q; exact q
    · exact Ans.err (c := 8) (by decide) (by decide) fun W b h => fact_neg x b W h hx hw (by omega)
theorem ans_odd (x : Int) (hx : In x) : Ans 48 1 [x] := by
  cases hw : wholeOk x
  · exact Ans.err (c := 8) (by decide) (by decide) fun W b h => odd_no x b W h hx hw
  · exact ⟨3, 0, ⟨#[]⟩, _, 0, ⟨may_bool _, in0.i64⟩, fun W b h => odd_ok x b W h hx hw⟩
theorem ans_clamp (x l h : Int) (hx : In x) (hl : In l) (hh : In h) : Ans 47 3 [x, l, h] := by
  by_cases h0 : l ≤ h
  · exact Ans.num (show In (max l (min h x)) by obtain ⟨a1, a2⟩ := hx; obtain ⟨a3, a4⟩ := hl; obtain ⟨a5, a6⟩ := hh; exact ⟨by omega, by omega⟩) fun W b q => clamp_ok x l h b W q h0 hx hl hh
  · exact Ans.err (c := 8) (by decide) (by decide) fun W b q => clamp_no x l h b W q (by omega)
theorem ans_gcd (l : List Int) (hl : Ins l) (h16 : l.length ≤ 16) : Ans 44 l.length l := by
  cases hb : l.any brk
  · exact Ans.num (gcdL_in in0 hl) fun W b h => gcd_ok W b l.length l h rfl hl h16 hb
  · exact Ans.err (c := 8) (by decide) (by decide) fun W b h => gcd_no W b l.length l h rfl hl h16 hb
theorem lcmF_in : ∀ {l : List Int} {m r : Int}, In m → 0 ≤ m → lcmF m l = some r → In r
  | [], m, r, h, _, e => by cases e; exact h
  | n :: l, m, r, h, h0, e => by
    unfold lcmF at e
    split at e
    · have hp : 0 ≤ m / gcdI m n * sz n := Int.mul_nonneg (Int.ediv_nonneg h0 (by unfold gcdI; omega)) (by unfold sz; omega)
      exact lcmF_in (l := l) ⟨by omega, by assumption⟩ hp e
    · cases e
theorem ans_lcm (l : List Int) (hl : Ins l) (h16 : l.length ≤ 16) : Ans 45 l.length l := by
  cases hb : l.any brk
  · cases hz : l.any zro
    · have q := fun W b h => lcm_ok W b l.length l h rfl hl h16 hb hz
      cases hr : lcmF 10000 l with
      | none => rw [hr] at q; exact Ans.err (c := 2) (by decide) (by decide) q
      | some r => rw [hr] at q; exact Ans.num (lcmF_in (l := l) (m := 10000) ⟨by decide, by decide⟩ (by decide) hr) q
    · exact Ans.num in0 fun W b h => lcm_zero W b l.length l h rfl hl h16 hb hz
  · exact Ans.err (c := 8) (by decide) (by decide) fun W b h => lcm_no W b l.length l h rfl hl h16 hb
theorem sign_in (x : Int) : In (cmpI x 0 * 10000) := (cmpI_in x).1
theorem ans_case (l : List Int) (hl : Ins l) (k : Nat) (h : k < 16) (hc : hasB (loI k) (hiI k) (l.length : Int) = true) : Ans (fidI k) l.length l :=
  match k, h, hc with
  | 0, _, hc => by
    have hb := has_bd (k := 0) hc
    obtain ⟨x, rfl⟩ := len1 (show l.length = 1 by have h1 := hb.1; have h2 := hb.2; simp [loI, hiI] at h1 h2; omega)
    have hx : In x := hl x (by simp)
    exact Ans.num (sz_in hx) fun W b h => abs_any x b W h hx
  | 1, _, hc => by
    have hb := has_bd (k := 0) hc
    obtain ⟨x, rfl⟩ := len1 (show l.length = 1 by have h1 := hb.1; have h2 := hb.2; simp [loI, hiI] at h1 h2; omega)
    have hx : In x := hl x (by simp)
    exact Ans.num (sign_in x) fun W b h => sign_any x b W h
  | 2, _, hc => by
    have hb := has_bd (k := 0) hc
    obtain ⟨x, rfl⟩ := len1 (show l.length = 1 by have h1 := hb.1; have h2 := hb.2; simp [loI, hiI] at h1 h2; omega)
    have hx : In x := hl x (by simp)
    exact Ans.tv (flo_in hx) (okVC _ _) fun W b h => int_any x b W h hx
  | 3, _, hc => by
    have hb := has_bd (k := 0) hc
    have h12 : l.length = 1 ∨ l.length = 2 := by have h1 := hb.1; have h2 := hb.2; simp [loI, hiI] at h1 h2; omega
    rcases h12 with h12 | h12
    · obtain ⟨x, rfl⟩ := len1 h12
      have hx : In x := hl x (by simp)
      exact Ans.num (trunc_in hx (u := 10000) (by decide)) fun W b h => trunc_1 x b W h hx
    · obtain ⟨x, y, rfl⟩ := len2 h12
      have hx : In x := hl x (by simp)
      have hy : In y := hl y (by simp)
      exact ans_trunc2 x y hx hy
  | 4, _, hc => by
    have hb := has_bd (k := 0) hc
    have h12 : l.length = 1 ∨ l.length = 2 := by have h1 := hb.1; have h2 := hb.2; simp [loI, hiI] at h1 h2; omega
    rcases h12 with h12 | h12
    · obtain ⟨x, rfl⟩ := len1 h12
      have hx : In x := hl x (by simp)
      exact Ans.tv (rou_in hx) (okVC _ _) fun W b h => round_1 x b W h hx
    · obtain ⟨x, y, rfl⟩ := len2 h12
      have hx : In x := hl x (by simp)
      have hy : In y := hl y (by simp)
      exact ans_round2 x y hx hy
  | 5, _, hc => by
    have hb := has_bd (k := 0) hc
    obtain ⟨x, y, rfl⟩ := len2 (show l.length = 2 by have h1 := hb.1; have h2 := hb.2; simp [loI, hiI] at h1 h2; omega)
    have hx : In x := hl x (by simp)
    have hy : In y := hl y (by simp)
    exact ans_floor x y hx hy
  | 6, _, hc => by
    have hb := has_bd (k := 0) hc
    obtain ⟨x, y, rfl⟩ := len2 (show l.length = 2 by have h1 := hb.1; have h2 := hb.2; simp [loI, hiI] at h1 h2; omega)
    have hx : In x := hl x (by simp)
    have hy : In y := hl y (by simp)
    exact ans_ceil x y hx hy
  | 7, _, hc => by
    have hb := has_bd (k := 0) hc
    obtain ⟨x, y, rfl⟩ := len2 (show l.length = 2 by have h1 := hb.1; have h2 := hb.2; simp [loI, hiI] at h1 h2; omega)
    have hx : In x := hl x (by simp)
    have hy : In y := hl y (by simp)
    exact Ans.tv (modX_in hy) (modXC x y) fun W b h => rest_any x y b W h hx hy
  | 8, _, hc => by
    have hb := has_bd (k := 0) hc
    obtain ⟨x, y, rfl⟩ := len2 (show l.length = 2 by have h1 := hb.1; have h2 := hb.2; simp [loI, hiI] at h1 h2; omega)
    have hx : In x := hl x (by simp)
    have hy : In y := hl y (by simp)
    exact ans_quot x y hx hy
  | 9, _, hc => by
    have hb := has_bd (k := 0) hc
    obtain ⟨x, y, rfl⟩ := len2 (show l.length = 2 by have h1 := hb.1; have h2 := hb.2; simp [loI, hiI] at h1 h2; omega)
    have hx : In x := hl x (by simp)
    have hy : In y := hl y (by simp)
    exact ans_power x y hx hy
  | 10, _, hc => by
    have hb := has_bd (k := 0) hc
    obtain ⟨x, rfl⟩ := len1 (show l.length = 1 by have h1 := hb.1; have h2 := hb.2; simp [loI, hiI] at h1 h2; omega)
    have hx : In x := hl x (by simp)
    exact ans_root x hx
  | 11, _, hc => by
    have hb := has_bd (k := 0) hc
    exact ans_gcd l hl (by have h2 := hb.2; simp [hiI] at h2; omega)
  | 12, _, hc => by
    have hb := has_bd (k := 0) hc
    exact ans_lcm l hl (by have h2 := hb.2; simp [hiI] at h2; omega)
  | 13, _, hc => by
    have hb := has_bd (k := 0) hc
    obtain ⟨x, rfl⟩ := len1 (show l.length = 1 by have h1 := hb.1; have h2 := hb.2; simp [loI, hiI] at h1 h2; omega)
    have hx : In x := hl x (by simp)
    exact ans_fact x hx
  | 14, _, hc => by
    have hb := has_bd (k := 0) hc
    obtain ⟨x, y, z, rfl⟩ := len3 (show l.length = 3 by have h1 := hb.1; have h2 := hb.2; simp [loI, hiI] at h1 h2; omega)
    have hx : In x := hl x (by simp)
    have hy : In y := hl y (by simp)
    have hz : In z := hl z (by simp)
    exact ans_clamp x y z hx hy hz
  | 15, _, hc => by
    have hb := has_bd (k := 0) hc
    obtain ⟨x, rfl⟩ := len1 (show l.length = 1 by have h1 := hb.1; have h2 := hb.2; simp [loI, hiI] at h1 h2; omega)
    have hx : In x := hl x (by simp)
    exact ans_odd x hx
  | j + 16, h, _ => absurd h (by omega)
theorem ans_all (l : List Int) (hl : Ins l) : ∀ (k : Nat) (h : k < 16), hasB (loI k) (hiI k) (l.length : Int) = true → Ans (fidI k) l.length l := by
  intro k h hc
  exact ans_case l hl k h hc
theorem lo_pos (k : Nat) (h : k < 16) : (0 : Int) < loI k := by
  match k, h with
  | 0, _ => exact (by decide)
  | 1, _ => exact (by decide)
  | 2, _ => exact (by decide)
  | 3, _ => exact (by decide)
  | 4, _ => exact (by decide)
  | 5, _ => exact (by decide)
  | 6, _ => exact (by decide)
  | 7, _ => exact (by decide)
  | 8, _ => exact (by decide)
  | 9, _ => exact (by decide)
  | 10, _ => exact (by decide)
  | 11, _ => exact (by decide)
  | 12, _ => exact (by decide)
  | 13, _ => exact (by decide)
  | 14, _ => exact (by decide)
  | 15, _ => exact (by decide)
  | j + 16, h => exact absurd h (by omega)
theorem hi_le (k : Nat) (h : k < 16) : hiI k ≤ 16 := by
  match k, h with
  | 0, _ => exact (by decide)
  | 1, _ => exact (by decide)
  | 2, _ => exact (by decide)
  | 3, _ => exact (by decide)
  | 4, _ => exact (by decide)
  | 5, _ => exact (by decide)
  | 6, _ => exact (by decide)
  | 7, _ => exact (by decide)
  | 8, _ => exact (by decide)
  | 9, _ => exact (by decide)
  | 10, _ => exact (by decide)
  | 11, _ => exact (by decide)
  | 12, _ => exact (by decide)
  | 13, _ => exact (by decide)
  | 14, _ => exact (by decide)
  | 15, _ => exact (by decide)
  | j + 16, h => exact absurd h (by omega)
/-- What Call answers: one value that may be; CodeArg where the arguments are not taken; else the first fault. -/
theorem nos_may {l : List Ag} (h : l.any nosB = false) {a : Ag} (ha : a ∈ l) : mayB a.t a.n a.s a.b a.c = true := by
  cases hm : mayB a.t a.n a.s a.b a.c
  · have : l.any nosB = true := List.any_eq_true.2 ⟨a, ha, by simp [nosB, hm]⟩
    rw [h] at this; cases this
  · rfl
theorem errC_may (c : Int) : mayB 4 0 ⟨#[]⟩ false (errC c) = true := by
  unfold errC; split
  · exact may_err (by omega) (by omega)
  · exact may_err (by decide) (by decide)
theorem partsI_in (b : Bool) : In (partsI b) := by cases b <;> exact ⟨by decide, by decide⟩
theorem may_in {t n : Int} {s : ByteArray} {b : Bool} {c : Int} (hm : mayB t n s b c = true) (h1 : t = 1) (hn : I64 n) : In n := by
  unfold mayB at hm
  simp at hm
  have h2 := hm.2.2.2.2.2.2.1
  obtain ⟨a1, a2⟩ := hn
  exact ⟨by omega, a2⟩
theorem asN_in {a : Ag} (hn : I64 a.n) : In (asN a) := by
  unfold asN asNum
  split
  · rename_i h
    split
    · exact may_in h.1 (by assumption) hn
    · split
      · exact partsI_in _
      · exact in0
  · exact in0
theorem call_ex (s : ByteArray) (l : List Ag) (hN : Nums l) (hl : l.length ≤ 9223372036854775807) : ∃ (rt rn : Int) (rs : ByteArray) (rb : Bool) (rc : Int), (mayB rt rn rs rb rc = true ∧ I64 rn) ∧
    (∀ (W : World) (v : Value) (x : Int), AV W v l → Calls Try.prog 14 #[.string s, v, .int .i64 x] W fun e w' => e = .returned (.agg #[.int .i64 rt, .int .i64 rn, .string rs, .bool rb, .int .i64 rc]) ∧ Below W.heap.size W w') ∧
    ((decide (nmI s < 16) && (hasB (loI (nmI s)) (hiI (nmI s)) (l.length : Int) && !l.any nosB)) = false → rt = 4 ∧ rn = 0 ∧ rs = ⟨#[]⟩ ∧ rb = false ∧ rc = 8) ∧
    ((decide (nmI s < 16) && (hasB (loI (nmI s)) (hiI (nmI s)) (l.length : Int) && !l.any nosB)) = true → ∀ a, firstF l = some a → rt = a.t ∧ rn = a.n ∧ rs = a.s ∧ rb = a.b ∧ rc = a.c) := by
  by_cases h : nmI s < 16
  · rw [decide_eq_true h, Bool.true_and]
    cases hs : (hasB (loI (nmI s)) (hiI (nmI s)) (l.length : Int) && !l.any nosB)
    · exact ⟨4, 0, ⟨#[]⟩, false, 8, ⟨may_err (by decide) (by decide), in0.i64⟩, fun W v x hv => c_sing s W v x l hv hl hN h hs, fun _ => ⟨rfl, rfl, rfl, rfl, rfl⟩, fun q => (by cases q)⟩
    · have hs2 := hs
      simp only [Bool.and_eq_true, Bool.not_eq_true'] at hs2
      have hb := has_bd (k := 0) hs2.1
      cases ha : firstF l with
      | some a =>
        have hm : a ∈ l := List.mem_of_find?_eq_some ha
        exact ⟨a.t, a.n, a.s, a.b, a.c, ⟨nos_may hs2.2 hm, hN a hm⟩, fun W v x hv => c_fault s W v x l hv hl hN h hs a ha, fun q => (by cases q), fun _ a' e => (by cases e; exact ⟨rfl, rfl, rfl, rfl, rfl⟩)⟩
      | none =>
        have h0 : 0 < l.length := by
          have h1 := hb.1
          have h2 := lo_pos _ h
          omega
        have h16 : l.length ≤ 16 := by
          have h1 := hb.2
          have h2 := hi_le _ h
          omega
        by_cases hF : firstC l = 0
        · have hi : Ins (l.map asN) := by
            intro y hy
            obtain ⟨a, ha2, rfl⟩ := List.mem_map.1 hy
            exact asN_in (hN a ha2)
          obtain ⟨rt, rn, rs, rb, rc, hm, hans⟩ := ans_all (l.map asN) hi (nmI s) h (by rw [List.length_map]; exact hs2.1)
          rw [List.length_map] at hans
          exact ⟨rt, rn, rs, rb, rc, hm, fun W v x hv => c_ans s W v x l hv hl hN h hs ha h0 h16 hF rt rn rs rb rc hans, fun q => (by cases q), fun _ a' e => (by cases e)⟩
        · exact ⟨4, 0, ⟨#[]⟩, false, errC (firstC l), ⟨errC_may _, in0.i64⟩, fun W v x hv => c_code s W v x l hv hl hN h hs ha h0 h16 hF, fun q => (by cases q), fun _ a' e => (by cases e)⟩
  · rw [decide_eq_false h, Bool.false_and]
    exact ⟨4, 0, ⟨#[]⟩, false, 8, ⟨may_err (by decide) (by decide), in0.i64⟩, fun W v x hv => c_no s W v x h, fun _ => ⟨rfl, rfl, rfl, rfl, rfl⟩, fun q => (by cases q)⟩
end Go.Proofs.Ytfpbcokfianjaaa
