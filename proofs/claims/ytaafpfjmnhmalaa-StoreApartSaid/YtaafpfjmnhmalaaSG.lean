/- How long a list that comes in may be. -/
import Derived.Test.YtaafpfjmnhmalaaSF
namespace Go.Proofs.Ytaafpfjmnhmalaa
open Go.RowKit Go.ChangeShapes Go.WideShapes Go.ChangeAt
set_option linter.all false
theorem bytesCl : Try.prog.bytesOf 32 = 16 := by kernel_rfl
section
variable {H : Type} {enc : TypeId × Value → H} {w : World} {base : Nat} {spare : Nat → Bool} {held : Bool}
theorem list_bytes {α : Type} {c : α → Array Value} {sz k : Nat} {tS tE : TypeId} (hu : Try.prog.underlying tS = some (.slice tE)) (hk : Try.prog.bytesOf tE = k) {v : Value} {l : List α} (hv : CV c sz w v l) {d : DataW H} {p : List MemPlace} (h : DataW.Trod enc Try.prog w base spare held tS v d p)
    {ts : List TypeId} {ds : List (DataW H)} (hZ : (DataW.weightsEach Try.prog ts ds).all (· ≤ reachBytes) = true) {j : Nat} (ht : ts[j]? = some tS) (hd : ds[j]? = some d) : l.length * k ≤ 140737488355327 := by
  obtain ⟨q, cap, rfl, _, _, _⟩ := hv
  obtain ⟨fuel, hf⟩ := h
  have g : DataW.trod enc Try.prog w base spare held fuel tS [.slice q l.length cap] = some (d, p) := hf
  rcases Go.Deep.open_slice hu g with ⟨h1, _⟩ | ⟨a, len, cap', m, n, D, Pl, h1, hb, hlc, hcm, hm, h2, hel⟩
  · simp only [List.cons.injEq, Value.slice.injEq, and_true] at h1
    rw [h1.2.1]; omega
  · simp only [List.cons.injEq, Value.slice.injEq, and_true] at h1
    have e : d = .slice ((List.range len).map D) ((List.range (m - len)).map fun j => D (len + j)) := congrArg Prod.fst h2
    rw [e] at hd
    have := sized_slice hZ ht hd hu
    rw [hk] at this
    simp only [List.length_map, List.length_range] at this
    have hr := reachBytes_lt
    rw [h1.2.1]
    have h5 : len * k ≤ (len + (m - len)) * k := Nat.mul_le_mul_right _ (by omega)
    omega
end
end Go.Proofs.Ytaafpfjmnhmalaa
