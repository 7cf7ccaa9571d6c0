/- The library's contracts of math/bits.Add64, Mul64, LeadingZeros64, laid at this program: for each the table of numbers and that the program bears that very body. No condition. The contracts of aggs.signWord, totalOf, number and sum: the exact sum of numbers, formed in two words. New memory alone is made. The condition: at most 2^40 numbers that fit. -/
import Derived.Ground.NamesProg
import Derived.Ground.Names7Prog
import Derived.Shelf.Spec.BitsCarry
import Derived.Shelf.Bits.Mul64
import Derived.Shelf.Small.Bits
import Derived.Test.YtcgcnpcimfaecaaGreatDoorProg
import Derived.Test.YtcgcnpcimfaecaaGreatDoorQGTw
namespace Go.Proofs
open Go.Shelf
def Tryz.lays7x25_ren : Go.Shelf.Ren := ⟨fun | 25 => 143 | n => n, fun | 22 => 123 | n => n, fun | n => n⟩
theorem Tryz.lays7x25 : Go.Proofs.Lays7.n25 Tryz.prog Tryz.lays7x25_ren := {
  mixed := by kernel_rfl
  f25 := Tryz.func143.trans (congrArg some (by kernel_rfl))
  t22 := Tryz.underlying123
  a22 := Tryz.isAgg123
  z22 := Tryz.sizeOf123
  v22 := Tryz.zeroValue123
  i22 := by kernel_rfl }
def Tryz.lays264_ren : Go.Shelf.Ren := ⟨fun | 264 => 145 | n => n, fun | 53 => 123 | 46 => 122 | n => n, fun | n => n⟩
theorem Tryz.lays264 : Go.Proofs.Lays.n264 Tryz.prog Tryz.lays264_ren := {
  mixed := by kernel_rfl
  f264 := Tryz.func145.trans (congrArg some (by kernel_rfl))
  t46 := Tryz.underlying122
  a46 := Tryz.isAgg122
  z46 := Tryz.sizeOf122
  v46 := Tryz.zeroValue122
  t53 := Tryz.underlying123
  a53 := Tryz.isAgg123
  z53 := Tryz.sizeOf123
  v53 := Tryz.zeroValue123 }
def Tryz.lays134_ren : Go.Shelf.Ren := ⟨fun | 134 => 160 | 129 => 171 | n => n, fun | 53 => 123 | 3 => 3 | 4 => 4 | 46 => 122 | 5 => 5 | 9 => 9 | n => n, fun | n => n⟩
theorem Tryz.lays134 : Go.Proofs.Lays.n134 Tryz.prog Tryz.lays134_ren := {
  mixed := by kernel_rfl
  f129 := Tryz.func171.trans (congrArg some (by kernel_rfl))
  f134 := Tryz.func160.trans (congrArg some (by kernel_rfl))
  t3 := Tryz.underlying3
  a3 := Tryz.isAgg3
  z3 := Tryz.sizeOf3
  v3 := Tryz.zeroValue3
  t4 := Tryz.underlying4
  a4 := Tryz.isAgg4
  z4 := Tryz.sizeOf4
  v4 := Tryz.zeroValue4
  t5 := Tryz.underlying5
  a5 := Tryz.isAgg5
  z5 := Tryz.sizeOf5
  v5 := Tryz.zeroValue5
  t9 := Tryz.underlying9
  a9 := Tryz.isAgg9
  z9 := Tryz.sizeOf9
  v9 := Tryz.zeroValue9
  t46 := Tryz.underlying122
  a46 := Tryz.isAgg122
  z46 := Tryz.sizeOf122
  v46 := Tryz.zeroValue122
  t53 := Tryz.underlying123
  a53 := Tryz.isAgg123
  z53 := Tryz.sizeOf123
  v53 := Tryz.zeroValue123 }
end Go.Proofs
namespace Go.Proofs.YtcgcnpcimfaecaaGreatDoor
open Go.RowKit
set_option linter.all false
/-- The upper word of a number. -/
def sgW (x : Int) : Int := if x < 0 then 18446744073709551615 else 0
/-- The lower word of a number. -/
def loW (x : Int) : Int := x % 18446744073709551616
theorem sgw_any (x : Int) (w : World) (h : I64 x) : Calls Tryz.prog 144 #[.int .i64 x] w fun e w' => e = .returned (.int .u64 (sgW x)) ∧ w' = w := by
  obtain ⟨h1, h2⟩ := h
  by_cases hx : x < 0
  · have e : sgW x = 18446744073709551615 := by unfold sgW; rw [if_pos hx]
    have hd : x / 9223372036854775808 = -1 := by omega
    rw [e]
    go_enter Tryz.func144, Tryz.ntmps144
    go_wp2
    go_ret
    exact ⟨by first | rfl | simp, rfl⟩
  · have e : sgW x = 0 := by unfold sgW; rw [if_neg hx]
    have hd : x / 9223372036854775808 = 0 := by omega
    rw [e]
    go_enter Tryz.func144, Tryz.ntmps144
    go_wp2
    go_ret
    exact ⟨by first | rfl | simp, rfl⟩
theorem add64_r (x y r c : Int) (hx : 0 ≤ x) (hy : 0 ≤ y) (hr : 0 ≤ r) (hr' : r < 18446744073709551616) (hc : c = 0 ∨ c = 1) (h : x + y = r + c * 18446744073709551616) (w : World) : (callFunc 143 #[.int .u64 x, .int .u64 y, .int .u64 0]).run Tryz.prog w =
    .ok (.value (.tuple #[.int .u64 r, .int .u64 c])) w := by
  obtain ⟨x, rfl⟩ := Int.eq_ofNat_of_zero_le hx
  obtain ⟨y, rfl⟩ := Int.eq_ofNat_of_zero_le hy
  have k := Any7.bits_Add64 Tryz.lays7x25 x y 0 (by omega) w
  rw [show (((x + y + 0) % 18446744073709551616 : Nat) : Int) = r by omega, show (((x + y + 0) / 18446744073709551616 : Nat) : Int) = c by omega] at k
  exact k
/-- Two words that hold a sum. -/
structure TW (h l s : Int) : Prop where
  h0 : 0 ≤ h
  h1 : h < 18446744073709551616
  l0 : 0 ≤ l
  l1 : l < 18446744073709551616
  eq : (h * 18446744073709551616 + l - s) % 340282366920938463463374607431768211456 = 0
theorem TW.next {h l s x l' c : Int} (t : TW h l s) (hx : I64 x) (hl0 : 0 ≤ l') (hl1 : l' < 18446744073709551616) (hs : l + loW x = l' + c * 18446744073709551616) : TW ((h + sgW x + c) % 18446744073709551616) l' (s + x) := by
  obtain ⟨a0, a1, b0, b1, e⟩ := t
  obtain ⟨x1, x2⟩ := hx
  refine ⟨by omega, by omega, hl0, hl1, ?_⟩
  unfold loW at hs
  unfold sgW
  split <;> omega
/-- A block of numbers. -/
structure NV (w : World) (p : Option Addr) (n : Nat) (l : List Int) : Prop where
  len : l.length = n
  at_ : 0 < n → ∃ b o, p = some ⟨b, o, none⟩ ∧ b < w.heap.size ∧ ∀ i x, l[i]? = some x → w.cell? ⟨b, o + i, none⟩ = some (.int .i64 x)
theorem NV.keep {w w' : World} {p : Option Addr} {n : Nat} {l : List Int} (h : NV w p n l) (hb : Below w.heap.size w w') : NV w' p n l :=
  ⟨h.len, fun h0 => by
    obtain ⟨b, o, e, hl, hc⟩ := h.at_ h0
    exact ⟨b, o, e, Nat.lt_of_lt_of_le hl hb.size, fun i x hi => (hb.cell (p := ⟨b, o + i, none⟩) hl).trans (hc i x hi)⟩⟩
theorem NV.ofRow {w : World} {base : Nat} {u : Value} {l : List Int} (h : Row icell 1 2 w base u l) : ∃ p c, u = .slice p l.length c ∧ l.length ≤ c ∧ NV w p l.length l := by
  rcases Row.two icell_size h with ⟨e, hl⟩ | ⟨g, cap, e, hgb, hgl, hcap, _, hcl, _⟩
  · subst e
    have : l = [] := by first | exact hl | exact List.eq_nil_of_length_eq_zero (by omega)
    subst this
    exact ⟨none, 0, rfl, Nat.le_refl _, rfl, fun h => absurd h (by simp)⟩
  · exact ⟨_, cap, e, by omega, rfl, fun _ => ⟨g, 0, rfl, hgl, fun i x hi => by have := hcl i x hi 0 (by decide); simpa [icell] using this⟩⟩
theorem foldl_snoc {l : List Int} {i : Nat} {x : Int} (h : l[i]? = some x) : (l.take (i + 1)).sum = (l.take i).sum + x := by
  rw [List.take_succ, h, Option.toList_some, List.sum_append]; simp
set_option maxRecDepth 100000 in
set_option maxHeartbeats 4000000 in
theorem tot_any (w : World) (p : Option Addr) (n c : Nat) (l : List Int) (hv : NV w p n l) (h40 : n ≤ 1099511627776) (hI : Hid (∀ x ∈ l, I64 x)) :
    Calls Tryz.prog 112 #[.slice p n c] w fun e w' => (∃ hh ll, e = .returned (.agg #[.int .u64 hh, .int .u64 ll]) ∧ TW hh ll l.sum) ∧ Below w.heap.size w w' := by
  have mixed : Tryz.prog.follows .mixedOrders = true := by kernel_rfl
  have HV : Hid _ := hv
  clear hv
  go_enter Tryz.func112, Tryz.ntmps112
  go_wp2
  go_loopw [10] (fun v w' => ∃ (i : Nat) (hh ll : Int), v = .int .i64 i ∧ i ≤ n ∧ Hid (TW hh ll (l.take i).sum) ∧ Below w.heap.size w w' ∧ Own w' w.heap.size #[.int .u64 0, .int .u64 0] ∧ Own w' (w.heap.size + 1) #[.int .u64 hh, .int .u64 ll]) (fun v _ => n - (intOf v).toNat)
  case atStart => exact ⟨0, 0, 0, rfl, by omega, (show Hid _ from ⟨by decide, by decide, by decide, by decide, by simp⟩), by with_reducible (repeat' first | assumption | exact Below.refl _ _ | refine Below.drew ?_ | refine bdrewN ?_ _ | refine Below.setCell ?_ (by first | exact Nat.le_refl _ | (simp; done) | (simp; omega) | omega) _ | refine Below.alloc ?_ (by first | exact Nat.le_refl _ | (simp; done) | (simp; omega) | omega) _), by with_reducible (repeat' first | assumption | refine Own.drew ?_ | refine Own.drewN ?_ _ | (refine Own.at ?_; first | rfl | (simp; done)) | refine Own.past ?_ _), by with_reducible (repeat' first | assumption | refine Own.drew ?_ | refine Own.drewN ?_ _ | (refine Own.at ?_; first | rfl | (simp; done)) | refine Own.past ?_ _)⟩
  case round =>
    obtain ⟨i, hh, ll, rfl, hi, HT, hB3, o0, o1⟩ := hrel
    have z3 := hB3.size
    have l0 := o0.lt
    have c0 := o0.cell
    have f0 := o0.fro
    have l1 := o1.lt
    have c1 := o1.cell
    have f1 := o1.fro
    by_cases hlt : i < n
    · have hlt' : (i : Int) < n := by omega
      obtain ⟨b, o, hp, hb, hc⟩ := HV.out.at_ (by omega)
      subst hp
      have hai : l[i]? = some (l[i]'(by rw [HV.out.len]; exact hlt)) := List.getElem?_eq_getElem _
      have hx := hI.out _ (List.mem_of_getElem? hai)
      have cx := (hB3.cell (p := ⟨b, o + i, none⟩) hb).trans (hc i _ hai)
      have HAi : Hid _ := hai
      revert HAi hx cx
      generalize (l[i]'(by rw [HV.out.len]; exact hlt)) = x
      intro hx cx HAi
      clear hai hc
      obtain ⟨ul, hul⟩ : ∃ ul, loW x = ul := ⟨_, rfl⟩
      have hul2 : x % 18446744073709551616 = ul := hul
      have hul3 : IntKind.u64.wrap x = ul := by rw [← hul2]; simp [IntKind.wrap, IntKind.bits, IntKind.signed]
      have hu0 : 0 ≤ ul := by omega
      have hu1 : ul < 18446744073709551616 := by omega
      have t := HT.out
      have a0 := t.l0
      have a1 := t.l1
      obtain ⟨l', cc, hl0, hl1, hcc, hsum⟩ : ∃ l' cc : Int, 0 ≤ l' ∧ l' < 18446744073709551616 ∧ (cc = 0 ∨ cc = 1) ∧ ll + ul = l' + cc * 18446744073709551616 := ⟨(ll + ul) % 18446744073709551616, (ll + ul) / 18446744073709551616, by omega, by omega, by omega, by omega⟩
      have hadd := fun W => add64_r ll ul l' cc a0 hu0 hl0 hl1 hcc hsum W
      have tn := t.next hx hl0 hl1 (by rw [hul]; exact hsum)
      have HTN : Hid (TW (IntKind.u64.wrap (IntKind.u64.wrap (hh + sgW x) + cc)) l' (l.take (i + 1)).sum) := (show TW (IntKind.u64.wrap (IntKind.u64.wrap (hh + sgW x) + cc)) l' (l.take (i + 1)).sum from by
        have e1 : ∀ z : Int, IntKind.u64.wrap z = z % 18446744073709551616 := fun z => by simp [IntKind.wrap, IntKind.bits, IntKind.signed]
        rw [foldl_snoc HAi.out, e1, e1, Int.emod_add_emod]
        exact tn)
      have hxI : Hid (I64 x) := hx
      clear tn t HT hsum hcc hl0 hl1 a0 a1 hu0 hu1 hul hul2 hx
      go_wp2
      go_region_with (go_at_call 144; refine (sgw_any _ _ hxI.out).mono ?_; rintro e w5 ⟨rfl, rfl⟩)
      all_goals (go_wp2; exact ⟨⟨i + 1, _, l', by go_num, by omega, HTN, by with_reducible (repeat' first | assumption | exact Below.refl _ _ | refine Below.drew ?_ | refine bdrewN ?_ _ | refine Below.setCell ?_ (by first | exact Nat.le_refl _ | (simp; done) | (simp; omega) | omega) _ | refine Below.alloc ?_ (by first | exact Nat.le_refl _ | (simp; done) | (simp; omega) | omega) _), ((o0.aside (a := ⟨w.heap.size + 1, 0, none⟩) (by simp) _).aside (a := ⟨w.heap.size + 1, 1, none⟩) (by simp) _).drew, (own_put (own_put o1 (k := 0) (by simp)) (k := 1) (by simp)).drew⟩, by simp [intOf]; omega⟩)
    · have hlt' : ¬ (i : Int) < n := by omega
      go_wp2
      have e : l.take i = l := List.take_of_length_le (by rw [HV.out.len]; omega)
      have t := HT.out
      rw [e] at t
      exact bodyPost_ret (v := .agg #[.int .u64 hh, .int .u64 ll]) (by simp [results, Tryz.results112, go_sem, c0, f0, l0]) rfl ⟨⟨hh, ll, rfl, t⟩, by with_reducible (repeat' first | assumption | exact Below.refl _ _ | refine Below.drew ?_ | refine bdrewN ?_ _ | refine Below.setCell ?_ (by first | exact Nat.le_refl _ | (simp; done) | (simp; omega) | omega) _ | refine Below.alloc ?_ (by first | exact Nat.le_refl _ | (simp; done) | (simp; omega) | omega) _)⟩
theorem TW.sgn {h l s : Int} (t : TW h l s) (hs : -170141183460469231731687303715884105728 < s ∧ s < 170141183460469231731687303715884105728) : (I64 s → IntKind.i64.wrap l = s ∧ h = sgW s) ∧ (¬ I64 s → ¬ h = sgW (IntKind.i64.wrap l)) := by
  obtain ⟨a0, a1, b0, b1, e⟩ := t
  obtain ⟨k, hk⟩ := Int.dvd_of_emod_eq_zero e
  rw [IntKind.wrap_i64]
  constructor
  · rintro ⟨h1, h2⟩
    unfold sgW
    split <;> (constructor <;> omega)
  · intro hn
    unfold I64 at hn
    unfold sgW
    split <;> omega
theorem nmb_no (hh ll sl : Int) (w : World) (hw : IntKind.i64.wrap ll = sl) (hI : I64 sl) (hne : (hh != sgW sl) = true) : Calls Tryz.prog 113 #[.agg #[.int .u64 hh, .int .u64 ll]] w fun e w' => e = .returned (.agg #[.int .i64 (4), .int .i64 (0), .string ⟨#[]⟩, .bool false, .int .i64 (2)]) ∧ Below w.heap.size w w' := by
  have mixed : Tryz.prog.follows .mixedOrders = true := by kernel_rfl
  have hsg := fun W => sgw_any sl W hI
  have hn2 : ¬ hh = sgW sl := by simpa using hne
  clear hI
  generalize sgW sl = g at *
  go_enter Tryz.func113, Tryz.ntmps113
  go_wp2
  go_region_held3 (fun w' => w'.cell? ⟨w.heap.size, 0, none⟩ = some (.int .u64 hh) ∧ w'.cell? ⟨w.heap.size, 1, none⟩ = some (.int .u64 ll)) ((repeat' apply And.intro) <;> (first | (go_keep; done) | (go_simp; done))) ((go_at_call 144; refine (hsg _).mono ?_; rintro e w5 ⟨rfl, rfl⟩))
  go_wp2_with (go_at_call 27; refine (err_ok _ _ (by decide) (by decide)).mono ?_; rintro e wb ⟨rfl, hbwb⟩; have hBwb : Below w.heap.size w wb := bup (by with_reducible (repeat' first | assumption | exact Below.refl _ _ | refine Below.drew ?_ | refine bdrewN ?_ _ | refine Below.setCell ?_ (by first | exact Nat.le_refl _ | (simp; done) | (simp; omega) | omega) _ | refine Below.alloc ?_ (by first | exact Nat.le_refl _ | (simp; done) | (simp; omega) | omega) _)) hbwb; have zwb := hBwb.size; have o0wb : Own wb (w.heap.size + 1) #[.int .i64 0, .int .i64 0, .string ⟨#[]⟩, .bool false, .int .i64 0] := Own.keep (by with_reducible (repeat' first | assumption | refine Own.drew ?_ | refine Own.drewN ?_ _ | (refine Own.at ?_; first | rfl | (simp; done)) | refine Own.past ?_ _)) hbwb; have c0 := o0wb.cell; have f0 := o0wb.fro; have l0 := o0wb.lt)
  exact bodyPost_ret (v := (.agg #[.int .i64 (4), .int .i64 (0), .string ⟨#[]⟩, .bool false, .int .i64 (2)])) (by simp [results, Tryz.results113, go_sem, c0, f0, l0]) rfl ⟨rfl, by with_reducible (repeat' first | assumption | exact Below.refl _ _ | refine Below.drew ?_ | refine bdrewN ?_ _ | refine Below.setCell ?_ (by first | exact Nat.le_refl _ | (simp; done) | (simp; omega) | omega) _ | refine Below.alloc ?_ (by first | exact Nat.le_refl _ | (simp; done) | (simp; omega) | omega) _)⟩
theorem nmb_ok (hh ll sl : Int) (w : World) (hw : IntKind.i64.wrap ll = sl) (hI : I64 sl) (hne : (hh != sgW sl) = false) (rt rn rc : Int) (hnum : Hid (∀ W : World, Calls Tryz.prog 115 #[.int .i64 sl] W fun e w' => e = .returned (.agg #[.int .i64 (rt), .int .i64 (rn), .string ⟨#[]⟩, .bool false, .int .i64 (rc)]) ∧ Below W.heap.size W w')) : Calls Tryz.prog 113 #[.agg #[.int .u64 hh, .int .u64 ll]] w fun e w' => e = .returned (.agg #[.int .i64 (rt), .int .i64 (rn), .string ⟨#[]⟩, .bool false, .int .i64 (rc)]) ∧ Below w.heap.size w w' := by
  have mixed : Tryz.prog.follows .mixedOrders = true := by kernel_rfl
  have hsg := fun W => sgw_any sl W hI
  have hn2 : hh = sgW sl := by simpa using hne
  clear hI
  generalize sgW sl = g at *
  subst hn2
  go_enter Tryz.func113, Tryz.ntmps113
  go_wp2
  go_region_held3 (fun w' => w'.cell? ⟨w.heap.size, 0, none⟩ = some (.int .u64 hh) ∧ w'.cell? ⟨w.heap.size, 1, none⟩ = some (.int .u64 ll)) ((repeat' apply And.intro) <;> (first | (go_keep; done) | (go_simp; done))) ((go_at_call 144; refine (hsg _).mono ?_; rintro e w5 ⟨rfl, rfl⟩))
  go_wp2_with (go_at_call 115; refine (hnum.out _).mono ?_; rintro e wb ⟨rfl, hbwb⟩; have hBwb : Below w.heap.size w wb := bup (by with_reducible (repeat' first | assumption | exact Below.refl _ _ | refine Below.drew ?_ | refine bdrewN ?_ _ | refine Below.setCell ?_ (by first | exact Nat.le_refl _ | (simp; done) | (simp; omega) | omega) _ | refine Below.alloc ?_ (by first | exact Nat.le_refl _ | (simp; done) | (simp; omega) | omega) _)) hbwb; have zwb := hBwb.size; have o0wb : Own wb (w.heap.size + 1) #[.int .i64 0, .int .i64 0, .string ⟨#[]⟩, .bool false, .int .i64 0] := Own.keep (by with_reducible (repeat' first | assumption | refine Own.drew ?_ | refine Own.drewN ?_ _ | (refine Own.at ?_; first | rfl | (simp; done)) | refine Own.past ?_ _)) hbwb; have c0 := o0wb.cell; have f0 := o0wb.fro; have l0 := o0wb.lt)
  exact bodyPost_ret (v := (.agg #[.int .i64 (rt), .int .i64 (rn), .string ⟨#[]⟩, .bool false, .int .i64 (rc)])) (by simp [results, Tryz.results113, go_sem, c0, f0, l0]) rfl ⟨rfl, by with_reducible (repeat' first | assumption | exact Below.refl _ _ | refine Below.drew ?_ | refine bdrewN ?_ _ | refine Below.setCell ?_ (by first | exact Nat.le_refl _ | (simp; done) | (simp; omega) | omega) _ | refine Below.alloc ?_ (by first | exact Nat.le_refl _ | (simp; done) | (simp; omega) | omega) _)⟩
/-- What is told of an exact sum. -/
def smT (s : Int) : Int := if -9223372036854775807 ≤ s ∧ s ≤ 9223372036854775807 then 1 else 4
def smN (s : Int) : Int := if -9223372036854775807 ≤ s ∧ s ≤ 9223372036854775807 then s else 0
def smC (s : Int) : Int := if -9223372036854775807 ≤ s ∧ s ≤ 9223372036854775807 then 0 else 2
theorem nmb_any (hh ll s : Int) (w : World) (t : TW hh ll s) (hs : -170141183460469231731687303715884105728 < s ∧ s < 170141183460469231731687303715884105728) : Calls Tryz.prog 113 #[.agg #[.int .u64 hh, .int .u64 ll]] w fun e w' => e = .returned (.agg #[.int .i64 (smT s), .int .i64 (smN s), .string ⟨#[]⟩, .bool false, .int .i64 (smC s)]) ∧ Below w.heap.size w w' := by
  obtain ⟨q1, q2⟩ := t.sgn hs
  by_cases hI : I64 s
  · obtain ⟨e1, e2⟩ := q1 hI
    by_cases hm : s = -9223372036854775808
    · have ht : smT s = 4 := by unfold smT; rw [if_neg (by omega)]
      have hn : smN s = 0 := by unfold smN; rw [if_neg (by omega)]
      have hc : smC s = 2 := by unfold smC; rw [if_neg (by omega)]
      rw [ht, hn, hc]
      exact nmb_ok hh ll s w e1 hI (by rw [e2]; simp) 4 0 2 (show Hid _ from fun W => num_f s W hm)
    · obtain ⟨h1, h2⟩ := hI
      have ht : smT s = 1 := by unfold smT; rw [if_pos (by omega)]
      have hn : smN s = s := by unfold smN; rw [if_pos (by omega)]
      have hc : smC s = 0 := by unfold smC; rw [if_pos (by omega)]
      rw [ht, hn, hc]
      exact nmb_ok hh ll s w e1 ⟨h1, h2⟩ (by rw [e2]; simp) 1 s 0 (show Hid _ from fun W => num_t s W ⟨h1, h2⟩ hm)
  · have ht : smT s = 4 := by unfold smT; rw [if_neg (fun h => hI ⟨by omega, by omega⟩)]
    have hn : smN s = 0 := by unfold smN; rw [if_neg (fun h => hI ⟨by omega, by omega⟩)]
    have hc : smC s = 2 := by unfold smC; rw [if_neg (fun h => hI ⟨by omega, by omega⟩)]
    rw [ht, hn, hc]
    have hb : I64 (IntKind.i64.wrap ll) := by rw [IntKind.wrap_i64]; unfold I64; omega
    exact nmb_no hh ll _ w rfl hb (by simpa using q2 hI)
theorem sum_bd : ∀ (l : List Int), (∀ x ∈ l, I64 x) → -(9223372036854775808 * (l.length : Int)) ≤ l.sum ∧ l.sum ≤ 9223372036854775808 * (l.length : Int)
  | [], _ => by simp
  | x :: l, h => by
    have h1 := sum_bd l (fun y hy => h y (List.mem_cons_of_mem _ hy))
    obtain ⟨h2, h3⟩ := h x (List.mem_cons_self ..)
    rw [List.sum_cons, List.length_cons]
    omega
theorem sum_any (w : World) (p : Option Addr) (n c : Nat) (l : List Int) (hv : NV w p n l) (h40 : n ≤ 1099511627776) (hI : Hid (∀ x ∈ l, I64 x)) :
    Calls Tryz.prog 78 #[.slice p n c] w fun e w' => e = .returned (.agg #[.int .i64 (smT l.sum), .int .i64 (smN l.sum), .string ⟨#[]⟩, .bool false, .int .i64 (smC l.sum)]) ∧ Below w.heap.size w w' := by
  have hb := sum_bd l hI.out
  have hln := hv.len
  have hq : -170141183460469231731687303715884105728 < l.sum ∧ l.sum < 170141183460469231731687303715884105728 := by omega
  have HQ : Hid _ := hq
  have HV : Hid _ := hv
  clear hb hln hq hv
  go_enter Tryz.func78, Tryz.ntmps78
  go_wp2_with (first | (go_at_call 112; refine (tot_any _ _ _ _ l (NV.keep HV.out (by with_reducible (repeat' first | assumption | exact Below.refl _ _ | refine Below.drew ?_ | refine bdrewN ?_ _ | refine Below.setCell ?_ (by first | exact Nat.le_refl _ | (simp; done) | (simp; omega) | omega) _ | refine Below.alloc ?_ (by first | exact Nat.le_refl _ | (simp; done) | (simp; omega) | omega) _))) h40 hI).mono ?_; rintro e wa ⟨⟨hh, ll, rfl, tw⟩, hbwa⟩; have hBwa : Below w.heap.size w wa := bup (by with_reducible (repeat' first | assumption | exact Below.refl _ _ | refine Below.drew ?_ | refine bdrewN ?_ _ | refine Below.setCell ?_ (by first | exact Nat.le_refl _ | (simp; done) | (simp; omega) | omega) _ | refine Below.alloc ?_ (by first | exact Nat.le_refl _ | (simp; done) | (simp; omega) | omega) _)) hbwa; have zwa := hBwa.size; have o0wa : Own wa (w.heap.size) #[.int .i64 0, .int .i64 0, .string ⟨#[]⟩, .bool false, .int .i64 0] := Own.keep (by with_reducible (repeat' first | assumption | refine Own.drew ?_ | refine Own.drewN ?_ _ | (refine Own.at ?_; first | rfl | (simp; done)) | refine Own.past ?_ _)) hbwa; have c0 := o0wa.cell; have f0 := o0wa.fro; have l0 := o0wa.lt) | (go_at_call 113; refine (nmb_any _ _ _ _ tw HQ.out).mono ?_; rintro e wb ⟨rfl, hbwb⟩; have hBwb : Below w.heap.size w wb := bup (by with_reducible (repeat' first | assumption | exact Below.refl _ _ | refine Below.drew ?_ | refine bdrewN ?_ _ | refine Below.setCell ?_ (by first | exact Nat.le_refl _ | (simp; done) | (simp; omega) | omega) _ | refine Below.alloc ?_ (by first | exact Nat.le_refl _ | (simp; done) | (simp; omega) | omega) _)) hbwb; have zwb := hBwb.size; have o0wb : Own wb (w.heap.size) #[.int .i64 0, .int .i64 0, .string ⟨#[]⟩, .bool false, .int .i64 0] := Own.keep (by with_reducible (repeat' first | assumption | refine Own.drew ?_ | refine Own.drewN ?_ _ | (refine Own.at ?_; first | rfl | (simp; done)) | refine Own.past ?_ _)) hbwb; have c0 := o0wb.cell; have f0 := o0wb.fro; have l0 := o0wb.lt))
  exact bodyPost_ret (v := (.agg #[.int .i64 (smT l.sum), .int .i64 (smN l.sum), .string ⟨#[]⟩, .bool false, .int .i64 (smC l.sum)])) (by simp [results, Tryz.results78, go_sem, c0, f0, l0]) rfl ⟨rfl, by with_reducible (repeat' first | assumption | exact Below.refl _ _ | refine Below.drew ?_ | refine bdrewN ?_ _ | refine Below.setCell ?_ (by first | exact Nat.le_refl _ | (simp; done) | (simp; omega) | omega) _ | refine Below.alloc ?_ (by first | exact Nat.le_refl _ | (simp; done) | (simp; omega) | omega) _)⟩
end Go.Proofs.YtcgcnpcimfaecaaGreatDoor
