/- Two bands: All, Over, and the law's edges and cells, told from a world that lies behind. -/
import Derived.Test.YtpblkidbaheboaaCQ
namespace Go.Proofs.Ytpblkidbaheboaa
open Go.RowKit
set_option linter.all false
theorem all_tb {w0 : Nat} {W0 : World} {NA NB : Nat} {PA PB : List Pr} {ma mb : Nat} (hT : Tb w0 W0 NA NB PA PB ma mb) (hl : PA.length ≤ 2513169434916) (W1 W : World) (h0 : Below W0.heap.size W0 W) (h1 : Below W1.heap.size W1 W) :
    Calls Try.prog 16 #[.pointer (some ⟨NA, 0, none⟩)] W fun e w' => ∃ q cap, e = .returned (.slice q PA.length cap) ∧ RowE w' W1.heap.size (.slice q PA.length cap) PA ∧ Below W0.heap.size W0 w' ∧ Below W1.heap.size W1 w' := by
  obtain ⟨D, h⟩ := (hT.keep h0).ga
  refine (ball_any W NA D PA ma h (by omega)).mono ?_
  rintro e w' ⟨v, rfl, hr, hb⟩
  obtain ⟨q, cap, rfl, -⟩ := RowG.view (sz := 7) (cs := Pr.cs) (fun _ => rfl) hr
  exact ⟨q, cap, rfl, RowG.mono hr h1.size, bup h0 hb, bup h1 hb⟩
theorem over_tb {w0 : Nat} {W0 : World} {NA NB : Nat} {PA PB : List Pr} {ma mb : Nat} (hT : Tb w0 W0 NA NB PA PB ma mb) (x y : Int) (W1 W : World) (h0 : Below W0.heap.size W0 W) (h1 : Below W1.heap.size W1 W) :
    Calls Try.prog 13 #[.pointer (some ⟨NA, 0, none⟩), .agg #[.int .i64 x, .int .i64 y]] W fun e w' => ∃ q cap, e = .returned (.slice q (overP PA x y).length cap) ∧ RowC w' W1.heap.size (.slice q (overP PA x y).length cap) (overP PA x y) ∧ Below W0.heap.size W0 w' ∧ Below W1.heap.size W1 w' := by
  obtain ⟨D, h⟩ := (hT.keep h0).ga
  refine (bover_any W NA D PA ma x y h).mono ?_
  rintro e w' ⟨v, rfl, hr, hb⟩
  obtain ⟨q, cap, rfl, -⟩ := RowG.view (sz := 2) (cs := Cl.cs) (fun _ => rfl) hr
  exact ⟨q, cap, rfl, RowG.mono hr h1.size, bup h0 hb, bup h1 hb⟩
theorem edges_tb {W0 : World} {l : List Pr} (Wb Wc W : World) (v u : Value) (hv : RowE Wb W0.heap.size v l) (hu : RowE Wc Wb.heap.size u l) (hbc : Below Wb.heap.size Wb Wc) (hcW : Below Wc.heap.size Wc W) (h0 : Below W0.heap.size W0 W) :
    Calls Try.prog 15 #[v, u] W fun e w' => e = .returned (.bool true) ∧ Below W0.heap.size W0 w' := by
  have hv' : RowE W W0.heap.size v l := RowG.keep hv (bup hbc hcW)
  have hu' : RowE W Wb.heap.size u l := RowG.keep hu hcW
  refine (edges_eq W W0.heap.size v u l hv' (RowG.view (sz := 7) (cs := Pr.cs) (fun _ => rfl) hu') (fun g h1 h2 => ?_)).mono ?_
  · have := (RowG.lt hv g h1).2
    have := (RowG.lt hu g h2).1
    omega
  · rintro e w' ⟨rfl, hm⟩
    exact ⟨rfl, h0.trans (hm.to_below h0.size (fun k hk => (RowG.lt hv' k hk).1))⟩
theorem cells_tb {W0 : World} {l : List Cl} (Wb Wc W : World) (v u : Value) (hv : RowC Wb W0.heap.size v l) (hu : RowC Wc Wb.heap.size u l) (hbc : Below Wb.heap.size Wb Wc) (hcW : Below Wc.heap.size Wc W) (h0 : Below W0.heap.size W0 W) :
    Calls Try.prog 12 #[v, u] W fun e w' => e = .returned (.bool true) ∧ Below W0.heap.size W0 w' := by
  have hv' : RowC W W0.heap.size v l := RowG.keep hv (bup hbc hcW)
  have hu' : RowC W Wb.heap.size u l := RowG.keep hu hcW
  refine (cells_eq W W0.heap.size v u l hv' (RowG.view (sz := 2) (cs := Cl.cs) (fun _ => rfl) hu') (fun g h1 h2 => ?_)).mono ?_
  · have := (RowG.lt hv g h1).2
    have := (RowG.lt hu g h2).1
    omega
  · rintro e w' ⟨rfl, hm⟩
    exact ⟨rfl, h0.trans (hm.to_below h0.size (fun k hk => (RowG.lt hv' k hk).1))⟩
end Go.Proofs.Ytpblkidbaheboaa
