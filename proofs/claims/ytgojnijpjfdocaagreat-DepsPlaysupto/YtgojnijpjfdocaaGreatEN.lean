/- slices.Clone at references; the contract of deps.eachOnce: sorted, each once, in memory of its own. -/
import Derived.Test.YtgojnijpjfdocaaGreatEO
import Derived.Test.YtgojnijpjfdocaaGreatEM
import Derived.Test.YtgojnijpjfdocaaGreatCG
import Derived.Lib.SliceRun
namespace Go.Proofs.YtgojnijpjfdocaaGreat
open Go.RowKit Go.Shelf
set_option linter.all false
theorem flat_cells {α : Type} {cs : α → List Value} {sz : Nat} (hc : ∀ x, (cs x).length = sz) {w : World} {b o : Nat} {l : List α} (h : ∀ i x, l[i]? = some x → ∀ j u, (cs x)[j]? = some u → w.cell? ⟨b, o + i * sz + j, none⟩ = some u) : ∀ j u, (flatG cs l)[j]? = some u → w.cell? ((⟨b, o, none⟩ : Addr).add j) = some u := fun j u hu => by
  rw [add_none]
  have hjl : j < l.length * sz := by
    have h1 := (List.getElem?_eq_some_iff.1 hu).1
    rwa [flatG_len hc] at h1
  have hsz : 0 < sz := by
    rcases Nat.eq_zero_or_pos sz with h0 | h0
    · rw [h0] at hjl; simp at hjl
    · exact h0
  have hq : j / sz < l.length := by rw [Nat.div_lt_iff_lt_mul hsz]; exact hjl
  have hr : j % sz < sz := Nat.mod_lt _ hsz
  have hjj : j = j / sz * sz + j % sz := by rw [Nat.mul_comm]; exact (Nat.div_add_mod j sz).symm
  have hx : l[j / sz]? = some (l[j / sz]'hq) := List.getElem?_eq_getElem hq
  have h2 := flatG_at hc _ (j / sz) _ (j % sz) hx hr
  rw [← hjj, hu] at h2
  have h3 := h (j / sz) _ hx (j % sz) u h2.symm
  rw [show o + j = o + j / sz * sz + j % sz by omega]
  exact h3
set_option maxRecDepth 100000 in
set_option maxHeartbeats 2000000 in
theorem clone_any (w : World) (b o n cp : Nat) (l : List Rf) (hn : n = l.length) (hp : 0 < n) (hl : n ≤ 3518437208883) (hc : ∀ i x, l[i]? = some x → ∀ j u, (Rf.cs x)[j]? = some u → w.cell? ⟨b, o + i * 5 + j, none⟩ = some u) : Calls Tryz.prog 45 #[.slice (some ⟨b, o, none⟩) n cp] w fun e w' => ∃ v', e = .returned v' ∧ RowG 50 5 Rf.cs w' w.heap.size v' l ∧ Below w.heap.size w w' := by
  have mixed : Tryz.prog.follows .mixedOrders = true := by kernel_rfl
  have HV : Hid (∀ W, Below w.heap.size w W → VG 5 Rf.cs W (.slice (some ⟨b, o, none⟩) n cp) l) := (show _ from fun W hb => .inr ⟨⟨b, o, none⟩, cp, by rw [hn], fun j u hu => by
    have h := flat_cells Rf.len hc j u hu
    rw [add_none] at h ⊢
    have hlt : b < w.heap.size := by
      rcases Nat.lt_or_ge b w.heap.size with q | q
      · exact q
      · rw [World.cell?, Array.getElem?_eq_none q] at h; cases h
    exact (hb.cell (p := ⟨b, o + j, none⟩) hlt).trans h⟩)
  obtain ⟨i0, hi0, hz0, hzs, hzb⟩ := info_parts infoRf
  have HAP : Hid (∀ (W : World) (u x : Value) (a kk : List Rf), RowG 50 5 Rf.cs W w.heap.size u a → VG 5 Rf.cs W x kk → Below w.heap.size w W → a.length + kk.length ≤ 3518437208883 → ∀ ty, ∃ q' n' c' w', (Builtin.append_ #[30, 30] ty #[u, x]).run Tryz.prog W = .ok (.slice q' n' c') w' ∧ RowG 50 5 Rf.cs w' w.heap.size (.slice q' n' c') (a ++ kk) ∧ Below w.heap.size w w') := (show _ from fun W u x a kk k1 k2 k3 k4 ty => by
    obtain ⟨q', n', c', w', r1, r2, r3⟩ := app_piece Tryz.underlying30 hi0 hz0 hzs hzb rfl (by omega) Rf.len Rf.one k1 k2 k3.size (by omega) (by omega) ty
    exact ⟨q', n', c', w', r1, r2, k3.trans (r3.mono (Nat.le_refl _))⟩)
  have HN : Hid (n = l.length) := hn
  have q22 : ∀ (W : World) (a : Option Addr) (n c n' c' : Nat), (binOp .eql 30 (.slice a n c) (.slice none n' c')).run Tryz.prog W = .ok (.bool a.isNone) W := fun W a n c n' c' => Lib.run_eql_slice_nil W _ _ a n c n' c' Tryz.underlying30
  clear hc hn hp hi0 hz0 hzs hzb i0
  have HR0 : Hid (∀ T, RowG 50 5 Rf.cs (w.alloc (.cells #[] 50)) w.heap.size (.slice (some ⟨w.heap.size, 0, none⟩) 0 0) [] ∧ T = T) := (show ∀ T : TypeId, _ from fun T => ⟨RowG.mk (cs := Rf.cs) Rf.len rfl (Nat.le_refl _) (heap_at rfl) (Nat.le_refl _) (by unfold maxLen; omega) rfl rfl, rfl⟩)
  go_enter Tryz.func45, Tryz.ntmps45
  go_wp2_with (at_builtin; obtain ⟨q2, n2, c2, w2, hr, r2, b2⟩ := HAP.out _ (.slice (some ⟨w.heap.size, 0, none⟩) 0 0) _ [] l (HR0.out 0).1 (HV.out _ (by with_reducible (repeat' first | assumption | exact Below.refl _ _ | refine Below.drew ?_ | refine bdrewN ?_ _ | refine Below.setCell ?_ (by first | exact Nat.le_refl _ | (simp; done) | (simp; omega) | omega) _ | refine Below.alloc ?_ (by first | exact Nat.le_refl _ | (simp; done) | (simp; omega) | omega) _))) (by with_reducible (repeat' first | assumption | exact Below.refl _ _ | refine Below.drew ?_ | refine bdrewN ?_ _ | refine Below.setCell ?_ (by first | exact Nat.le_refl _ | (simp; done) | (simp; omega) | omega) _ | refine Below.alloc ?_ (by first | exact Nat.le_refl _ | (simp; done) | (simp; omega) | omega) _)) (by have := HN.out; simp; omega) _; refine wpList_app3 rfl _ _ _ _ rfl _ _ rfl rfl _ w2 hr ?_; have R2 : Hid (RowG 50 5 Rf.cs w2 w.heap.size (.slice q2 n2 c2) l) := r2; have hB2 : Below w.heap.size w w2 := b2; clear hr r2 b2)
  go_ret
  exact ⟨_, rfl, R2.out, hB2⟩
/-- References in their order, each once. -/
def onceR (l : List Rf) : List Rf := cpt sRf (srtL cmpF l)
theorem onceR_mem (l : List Rf) (x : Rf) : x ∈ onceR l ↔ x ∈ l := by unfold onceR; rw [mem_cpt (fun _ _ => sRf_is)]; exact (srtL_perm cmpF l).mem_iff
theorem onceR_len (l : List Rf) : (onceR l).length ≤ l.length := by have := cpt_len sRf (srtL cmpF l); rw [srtL_len] at this; exact this
theorem onceR_pos {l : List Rf} (h : 0 < l.length) : 0 < (onceR l).length := by
  match l, h with
  | x :: t, _ => exact List.length_pos_of_mem ((onceR_mem (x :: t) x).2 List.mem_cons_self)
theorem cmpF_trans {x y z : Rf} (h1 : cmpF x y < 0) (h2 : cmpF y z < 0) : cmpF x z < 0 := by rw [cmpF_lex] at *; omega
theorem onceR_srt (l : List Rf) : (onceR l).Pairwise (fun x y => cmpF x y < 0) := by
  have h : (srtL cmpF l).Pairwise (fun x y => cmpF x y < 0 ∨ x = y) := (srtL_srt cmpF_swo l).imp (fun {x y} h => by
    by_cases h2 : cmpF x y < 0
    · exact .inl h2
    · exact .inr (cmpF_tot x y (decide_eq_false h2) (decide_eq_false h)))
  exact cpt_srt (s := sRf) (lt := fun x y => cmpF x y < 0) (fun _ _ => sRf_is) (fun h1 h2 => cmpF_trans h1 h2) h
set_option maxRecDepth 100000 in
set_option maxHeartbeats 4000000 in
theorem once_any (w : World) (b o n cp : Nat) (l : List Rf) (hn : n = l.length) (hp : 0 < n) (hl : n ≤ 3518437208883) (hc : ∀ i x, l[i]? = some x → ∀ j u, (Rf.cs x)[j]? = some u → w.cell? ⟨b, o + i * 5 + j, none⟩ = some u) : Calls Tryz.prog 27 #[.slice (some ⟨b, o, none⟩) n cp] w fun e w' => ∃ v', e = .returned v' ∧ RowF w' v' (onceR l) ∧ (∀ g, v'.ownBlock = some g → w.heap.size ≤ g) ∧ Below w.heap.size w w' := by
  have mixed : Tryz.prog.follows .mixedOrders = true := by kernel_rfl
  have HCl : Hid (Calls Tryz.prog 45 #[.slice (some ⟨b, o, none⟩) n cp] w fun e w' => ∃ v', e = .returned v' ∧ RowG 50 5 Rf.cs w' w.heap.size v' l ∧ Below w.heap.size w w') := clone_any w b o n cp l hn hp hl hc
  have HSo : Hid (∀ W v, RowG 50 5 Rf.cs W w.heap.size v l → Below w.heap.size w W → Calls Tryz.prog 46 #[v, .func (.func 47) #[] #[]] W fun e w' => e = .returned (.tuple #[]) ∧ RowG 50 5 Rf.cs w' w.heap.size v (srtL cmpF l) ∧ Below w.heap.size w w') := (show _ from fun W v h1 h2 => (sortf_any W w.heap.size v l h1 (by omega)).mono (by
    rintro e w' ⟨rfl, k1, k2⟩
    exact ⟨rfl, k1, h2.trans (k2.to_below h2.size (fun k hk => (RowG.lt h1 k hk).1))⟩))
  have HCo : Hid (∀ W v, RowG 50 5 Rf.cs W w.heap.size v (srtL cmpF l) → Below w.heap.size w W → Calls Tryz.prog 49 #[v] W fun e w' => ∃ g c, e = .returned (.slice (some ⟨g, 0, none⟩) (onceR l).length c) ∧ RowF w' (.slice (some ⟨g, 0, none⟩) (onceR l).length c) (onceR l) ∧ Below w.heap.size w w') := (show _ from fun W v h1 h2 => (comp_anyf W v (srtL cmpF l) (RowG.mono h1 (Nat.zero_le _)) (by rw [srtL_len]; omega)).mono (by
    rintro e w' ⟨v', rfl, k1, k2, k3⟩
    have hb := h2.trans (k3.to_below h2.size (fun k hk => (RowG.lt h1 k hk).1))
    rcases RowG.two k1 with ⟨_, e2⟩ | ⟨g, cap, cur, rfl, _⟩
    · have h0 := onceR_pos (l := l) (by omega)
      have e3 : onceR l = [] := e2
      rw [e3] at h0
      exact absurd h0 (by simp)
    · exact ⟨g, cap, rfl, k1, hb⟩))
  have hlen := onceR_len l
  have HCc : Hid (∀ W sb v, Own W sb #[v] → VWf W v (onceR l) → Calls Tryz.prog 48 #[.slice (some ⟨sb, 0, none⟩) 1 1] W fun e w' => ∃ v', e = .returned v' ∧ RowF w' v' (onceR l) ∧ (∀ g, v'.ownBlock = some g → W.heap.size ≤ g) ∧ Below W.heap.size W w') := (show _ from fun W sb v h1 h2 => concat_onef W sb v (onceR l) h1 h2 (by omega))
  clear hc hn hp hl hlen
  generalize onceR l = R at *
  generalize srtL cmpF l = L at *
  go_enter Tryz.func27, Tryz.ntmps27
  go_wp2_with (first
    | (go_at_call 45; refine HCl.out.mono ?_; rintro e wa ⟨va, rfl, h1, h2⟩; have H1 : Hid (RowG 50 5 Rf.cs wa w.heap.size va l) := h1; have hBa : Below w.heap.size w wa := h2; clear h1 h2)
    | (go_at_call 46; refine (HSo.out _ _ (RowG.keep H1.out (by with_reducible (repeat' first | assumption | exact Below.refl _ _ | refine Below.drew ?_ | refine bdrewN ?_ _ | refine Below.setCell ?_ (by first | exact Nat.le_refl _ | (simp; done) | (simp; omega) | omega) _ | refine Below.alloc ?_ (by first | exact Nat.le_refl _ | (simp; done) | (simp; omega) | omega) _))) (by with_reducible (repeat' first | assumption | exact Below.refl _ _ | refine Below.drew ?_ | refine bdrewN ?_ _ | refine Below.setCell ?_ (by first | exact Nat.le_refl _ | (simp; done) | (simp; omega) | omega) _ | refine Below.alloc ?_ (by first | exact Nat.le_refl _ | (simp; done) | (simp; omega) | omega) _))).mono ?_; rintro e wb ⟨rfl, h1, h2⟩; have H2 : Hid (RowG 50 5 Rf.cs wb w.heap.size va L) := h1; have hBb : Below w.heap.size w wb := h2; clear h1 h2)
    | (go_at_call 49; refine (HCo.out _ _ (RowG.keep H2.out (by with_reducible (repeat' first | assumption | exact Below.refl _ _ | refine Below.drew ?_ | refine bdrewN ?_ _ | refine Below.setCell ?_ (by first | exact Nat.le_refl _ | (simp; done) | (simp; omega) | omega) _ | refine Below.alloc ?_ (by first | exact Nat.le_refl _ | (simp; done) | (simp; omega) | omega) _))) (by with_reducible (repeat' first | assumption | exact Below.refl _ _ | refine Below.drew ?_ | refine bdrewN ?_ _ | refine Below.setCell ?_ (by first | exact Nat.le_refl _ | (simp; done) | (simp; omega) | omega) _ | refine Below.alloc ?_ (by first | exact Nat.le_refl _ | (simp; done) | (simp; omega) | omega) _))).mono ?_; rintro e wc ⟨gc, cc, rfl, h1, h2⟩; have H3 : Hid (RowF wc (.slice (some ⟨gc, 0, none⟩) R.length cc) R) := h1; have hBc : Below w.heap.size w wc := h2; clear h1 h2)
    | (go_at_call 48; refine (HCc.out _ _ (.slice (some ⟨gc, 0, none⟩) R.length cc) (by with_reducible (repeat' first | assumption | refine Own.drew ?_ | refine Own.drewN ?_ _ | (refine Own.at ?_; first | rfl | (simp; done)) | refine Own.past ?_ _)) (VWf.keep (RowG.vwf H3.out) (by with_reducible (repeat' first | assumption | exact Below.refl _ _ | refine Below.drew ?_ | refine bdrewN ?_ _ | refine Below.setCell ?_ (by first | exact Nat.le_refl _ | (simp; done) | (simp; omega) | omega) _ | refine Below.alloc ?_ (by first | exact Nat.le_refl _ | (simp; done) | (simp; omega) | omega) _)))).mono ?_; rintro e wd ⟨vd, rfl, h1, h2, h3⟩; have H4 : Hid (RowF wd vd R) := h1; have hz := hBc.size; have H5 : Hid (∀ g, vd.ownBlock = some g → w.heap.size ≤ g) := (show _ from fun g q => Nat.le_trans hz (Nat.le_trans (by simp) (h2 g q))); have hBd : Below w.heap.size w wd := bup (by with_reducible (repeat' first | assumption | exact Below.refl _ _ | refine Below.drew ?_ | refine bdrewN ?_ _ | refine Below.setCell ?_ (by first | exact Nat.le_refl _ | (simp; done) | (simp; omega) | omega) _ | refine Below.alloc ?_ (by first | exact Nat.le_refl _ | (simp; done) | (simp; omega) | omega) _)) h3; clear h1 h2 h3))
  go_ret
  exact ⟨_, rfl, H4.out, H5.out, hBd⟩
end Go.Proofs.YtgojnijpjfdocaaGreat
