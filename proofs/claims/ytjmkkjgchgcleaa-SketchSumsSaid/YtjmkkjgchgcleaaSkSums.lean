/- The statement SketchSums of chapter 21, walked. -/
import Derived.Test.YtjmkkjgchgcleaaSkKinds
set_option linter.unusedVariables false
namespace Go.Proofs.Ytjmkkjgchgcleaa
open Go.RowKit

theorem sumS_inj {s s' v : Int} (h : sumS s v = sumS s' v) (hs : 0 ≤ s ∧ s < 1000003) (hs' : 0 ≤ s' ∧ s' < 1000003) : s = s' := by
  unfold sumS at h; omega
theorem sumS_inj2 {s v v' : Int} (h : sumS s v = sumS s v') (hv : 0 ≤ v ∧ v ≤ 65535) (hv' : 0 ≤ v' ∧ v' ≤ 65535) : v = v' := by
  unfold sumS at h; omega
theorem sumL_inj : ∀ (L : List Int) {s s' : Int} (hs : 0 ≤ s ∧ s < 1000003) (hs' : 0 ≤ s' ∧ s' < 1000003), sumL s L = sumL s' L → s = s'
  | [], s, s', hs, hs', h => h
  | v :: r, s, s', hs, hs', h => sumS_inj (sumL_inj r (sumS_bd s v) (sumS_bd s' v) h) hs hs'
theorem sum_set {L : List Int} {k : Nat} {v v' : Int} (hk : L[k]? = some v) (hv : 0 ≤ v ∧ v ≤ 65535) (hv' : 0 ≤ v' ∧ v' ≤ 65535) (hne : v' ≠ v) : sumF [L.set k v'] ≠ sumF [L] := by
  have hlt := (List.getElem?_eq_some_iff.1 hk).1
  have e1 : L.set k v' = L.take k ++ v' :: L.drop (k + 1) := by rw [List.set_eq_take_append_cons_drop, if_pos hlt]
  have e2 : L = L.take k ++ v :: L.drop (k + 1) := by
    have := List.take_append_drop k L
    rw [List.drop_eq_getElem_cons hlt, (List.getElem?_eq_some_iff.1 hk).2] at this
    exact this.symm
  intro h
  have h : sumL 7 (L.set k v') = sumL 7 L := h
  rw [e1] at h
  rw [show sumL 7 L = sumL 7 (L.take k ++ v :: L.drop (k + 1)) by rw [← e2]] at h
  unfold sumL at h
  rw [List.foldl_append, List.foldl_append, List.foldl_cons, List.foldl_cons] at h
  have hb := sumL_bd (s := 7) (by omega) (L.take k)
  exact hne (sumS_inj2 (sumL_inj _ (sumS_bd _ _) (sumS_bd _ _) h) hv' hv)

/-- A picture of one component, in the variable's block. -/
structure One (H bm : Nat) (W : World) (X Y : Int) (b cC g cap : Nat) (L : List Int) : Prop where
  row : W.ownsRow H 41 5 (.slice (some ⟨b, 0, none⟩) 1 cC) 1 (compC 8 1 (.slice (some ⟨g, 0, none⟩) L.length cap))
  dat : W.ownsRow H 3 1 (.slice (some ⟨g, 0, none⟩) L.length cap) L.length (L.map (Value.int .i64))
  blk : W.heap[bm]? = some (.cells #[.int .i64 X, .int .i64 Y, .int .i64 0, .int .i64 0, .slice (some ⟨b, 0, none⟩) 1 cC] 25 (0, 0))
theorem One.keep {H bm : Nat} {W W' : World} {X Y : Int} {b cC g cap : Nat} {L : List Int} (h : One H bm W X Y b cC g cap L) (hb : Below W.heap.size W W') : One H bm W' X Y b cC g cap L :=
  ⟨own_below h.row hb, own_below h.dat hb, (hb.block bm (Array.getElem?_eq_some_iff.1 h.blk).1).trans h.blk⟩
theorem One.set {H bm : Nat} {W : World} {X Y : Int} {b cC g cap : Nat} {L : List Int} (h : One H bm W X Y b cC g cap L) (k : Nat) (v : Int) : One H bm (W.setCell ⟨g, k, none⟩ (.int .i64 v)) X Y b cC g cap (L.set k v) := by
  have S := h.dat.stored k (.int .i64 v)
  have hne := rows_apart h.row h.dat (by decide)
  refine ⟨?_, ?_, ?_⟩
  · rw [List.length_set]
    exact ownsRow_keep h.row (by simp [World.setCell]) fun q hq => Below.heap_setCell _ _ _ q (fun e => hne q hq (by rw [e]; rfl))
  · rw [List.length_set, List.map_set]; exact S.1
  · exact (Below.heap_setCell _ _ _ bm (fun e => row_off h.dat h.blk (by decide) g rfl e.symm)).trans h.blk
theorem One.rd {H bm : Nat} {W : World} {X Y : Int} {b cC g cap : Nat} {L : List Int} (h : One H bm W X Y b cC g cap L) : RdImg W (some ⟨b, 0, none⟩) [L] 8 (fun _ => 1) := fun i M hM => by
  rcases i with _ | i
  · obtain rfl : L = M := by simpa using hM
    obtain ⟨_, _, hv, _, hbl, h1, h2⟩ := own_form h.row (by omega)
    injection hv with e1 e2 e3
    injection e1 with e1
    injection e1 with e1
    subst e1 e3
    obtain ⟨A', cap2, hv2, _, hc1, hc2⟩ := own_any h.dat
    injection hv2 with e4 e5 e6
    subst e6
    have hcell : ∀ j u, j < 5 → (compC 8 1 (.slice (some ⟨g, 0, none⟩) L.length cap))[j]? = some u → W.cell? ⟨b, j, none⟩ = some u := fun j u hj hu => by
      rw [h.row.cellAt j (by omega)]; exact hu
    exact ⟨b, some ⟨g, 0, none⟩, cap, rfl, hbl, hcell 0 _ (by omega) rfl, hcell 1 _ (by omega) rfl, hcell 2 _ (by omega) rfl, hcell 3 _ (by omega) rfl, hcell 4 _ (by omega) rfl, hc1, hc2, Lst.own h.dat⟩
  · simp at hM
theorem one_of {H : Nat} {w W : World} {Cv : Value} {CS : List (List Value)} {X Y : Int} {kind : Int} {bm : Nat} (h : Pic H w W Cv 1 CS X Y 0 0 8 kind) (hL : 0 < (dataF X Y 0 0 8 kind 0).length) (hb : W.heap[bm]? = some (.cells #[.int .i64 X, .int .i64 Y, .int .i64 0, .int .i64 0, Cv] 25 (0, 0))) :
    ∃ b cC g cap, Cv = .slice (some ⟨b, 0, none⟩) 1 cC ∧ One H bm W X Y b cC g cap (dataF X Y 0 0 8 kind 0) := by
  obtain ⟨cs, hcs⟩ : ∃ cs, CS[0]? = some cs := ⟨_, List.getElem?_eq_getElem (by rw [h.len]; omega)⟩
  obtain ⟨A, cap, e, ho⟩ := h.cmp 0 cs hcs
  obtain ⟨b, cC, rfl, _⟩ := own_form h.own (by omega)
  obtain ⟨g, cap', hv, _⟩ := own_form ho hL
  injection hv with e1 e2 e3
  subst e1 e3
  have hCS : CS.flatten = cs := by
    have hl := h.len
    match CS, hl, hcs with
    | [c], _, hcs => simp at hcs; simp [hcs]
  refine ⟨b, cC, g, cap, rfl, ?_, ho, hb⟩
  have := h.own
  rw [hCS, e, step_zero] at this
  exact this
theorem One.cells {H bm : Nat} {W : World} {X Y : Int} {b cC g cap : Nat} {L : List Int} (h : One H bm W X Y b cC g cap L) :
    W.cell? ⟨bm, 0, none⟩ = some (.int .i64 X) ∧ W.cell? ⟨bm, 1, none⟩ = some (.int .i64 Y) ∧ W.cell? ⟨bm, 2, none⟩ = some (.int .i64 0) ∧ W.cell? ⟨bm, 3, none⟩ = some (.int .i64 0) ∧ W.cell? ⟨bm, 4, none⟩ = some (.slice (some ⟨b, 0, none⟩) 1 cC) ∧
      W.cell? ⟨b, 4, none⟩ = some (.slice (some ⟨g, 0, none⟩) L.length cap) ∧ 1 ≤ cC ∧ cC ≤ maxLen ∧ L.length ≤ cap ∧ cap ≤ maxLen := by
  have hb := h.blk
  obtain ⟨_, _, hv, _, hbl, h1, h2⟩ := own_form h.row (by omega)
  injection hv with e1 e2 e3
  subst e3
  obtain ⟨_, _, hv2, _, hc1, hc2⟩ := own_any h.dat
  injection hv2 with e4 e5 e6
  subst e6
  exact ⟨by simp [World.cell?, hb], by simp [World.cell?, hb], by simp [World.cell?, hb], by simp [World.cell?, hb], by simp [World.cell?, hb], by rw [h.row.cellAt 4 (by omega)]; rfl, h1, h2, hc1, hc2⟩
theorem One.at {H bm : Nat} {W : World} {X Y : Int} {b cC g cap : Nat} {L : List Int} (h : One H bm W X Y b cC g cap L) {k : Nat} {v : Int} (hk : L[k]? = some v) : W.cell? ⟨g, k, none⟩ = some (.int .i64 v) ∧ W.frozen? ⟨g, k, none⟩ = false :=
  ⟨by rw [h.dat.cellAt k (by have := (List.getElem?_eq_some_iff.1 hk).1; omega), List.getElem?_map, hk]; rfl, h.dat.frozenAt k⟩

set_option maxRecDepth 100000 in
set_option maxHeartbeats 16000000 in
theorem walk_sketchSums (a0 : Int) (a1 : Int) (a2 : Int) (a3 : Int) (w : World) (w0 : (Lit.int .i64 a0).wf = true) (w1 : (Lit.int .i64 a1).wf = true) (w2 : (Lit.int .i64 a2).wf = true) (w3 : (Lit.int .i64 a3).wf = true) :
    Calls Try.prog 5 #[.int .i64 a0, .int .i64 a1, .int .i64 a2, .int .i64 a3] w fun e w' => e = .returned (.bool true) ∧ Below w.heap.size w w' := by
  clear w0 w1 w2 w3
  go_enter Try.func5, Try.ntmps5
  go_wp2_with fail
  refine (known21 _).mono ?_
  rintro e w1 ⟨rfl, h1⟩
  go_wp2_with fail
  refine (some21 _ _ _ (by omega) (by omega)).mono ?_
  rintro e w' ⟨x', rfl, x0, x1, rfl⟩
  go_wp2_with fail
  refine (some21 _ _ _ (by omega) (by omega)).mono ?_
  rintro e w' ⟨y', rfl, y0, y1, rfl⟩
  obtain ⟨X, hX⟩ : ∃ X : Nat, 1 + x' = (X : Int) := ⟨(1 + x').toNat, by omega⟩
  obtain ⟨Y, hY⟩ : ∃ Y : Nat, 1 + y' = (Y : Int) := ⟨(1 + y').toNat, by omega⟩
  go_wp2_with fail
  refine (draw_any X Y 0 0 1 8 3 _ (by omega) (by omega) (by omega) (by omega) (by omega)).mono ?_
  rintro e w2 ⟨Cv, CS, rfl, hP⟩
  have hP : Pic w1.heap.size w1 w2 Cv 1 CS X Y 0 0 8 3 := hP
  obtain ⟨Wi, hWi⟩ : ∃ Wi, w2.alloc (Obj.cells #[.int .i64 (X : Int), .int .i64 (Y : Int), .int .i64 0, .int .i64 0, Cv] 25) = Wi := ⟨_, rfl⟩
  have hBW : Below w2.heap.size w2 Wi := by rw [← hWi]; exact (Below.refl _ w2).alloc (Nat.le_refl _) _
  have hB := h1.trans ((hP.bel.trans (hBW.mono hP.bel.size)).mono h1.size)
  have hbm : Wi.heap[w2.heap.size]? = some (.cells #[.int .i64 (X : Int), .int .i64 (Y : Int), .int .i64 0, .int .i64 0, Cv] 25 (0, 0)) := by rw [← hWi]; exact World.alloc_heap_new w2 _
  have hXY : 0 < Y * X ∧ Y * X ≤ 144 := ⟨Nat.mul_pos (by omega) (by omega), by have := Nat.mul_le_mul (show Y ≤ 12 by omega) (show X ≤ 12 by omega); omega⟩
  have hlen : (dataF X Y 0 0 8 3 0).length = Y * X := by rw [data_zero, gridP_len]
  obtain ⟨b, cC, g, cap, rfl, hO⟩ := one_of (hP.keep (Nat.le_refl _) hBW) (by omega) hbm
  have hval : ∀ v ∈ dataF X Y 0 0 8 3 0, 0 ≤ v ∧ v ≤ 255 := by
    rw [data_zero]
    intro v hv
    unfold gridP at hv
    obtain ⟨q, _, rfl⟩ := List.mem_map.1 hv
    have := smp_bd (kind := 3) (c := 0) (m := (2 : Int) ^ (8 : Int).toNat) (i := ((q % X : Nat) : Int)) (j := ((q / X : Nat) : Int)) (by decide)
    have e : (2 : Int) ^ (8 : Int).toNat = 256 := by decide
    rw [e] at this ⊢
    omega
  generalize dataF X Y 0 0 8 3 0 = L at *
  have hbw := h1.size
  have hg1 : w.heap.size ≤ g := Nat.le_trans h1.size (own_lt hO.dat rfl).1
  have hpb := hP.bel.size
  have HO := Lib.hid hO
  have HV := Lib.hid hval
  obtain ⟨m0, m1, m2, m3, m4, r4, q1, q2, q3, q4⟩ := hO.cells
  unfold maxLen at q2 q4
  clear hP hBW hbm hO hval h1
  go_wp2_with fail
  refine (sum_any (Ls := [L]) X Y 0 0 HO.out.rd (by simp) (by unfold maxLen; simp; omega) (by simp; exact ⟨by omega, fun v hv => by have := HV.out v hv; omega⟩)).mono ?_
  rintro e w3 ⟨rfl, hb3⟩
  have hO3 := HO.out.keep hb3
  have hB3 := hB.trans (hb3.mono hB.size)
  clear m0 m1 m2 m3 m4 r4 hb3 hB HO
  obtain ⟨m0, m1, m2, m3, m4, r4, _, _, _, _⟩ := hO3.cells
  have HO3 := Lib.hid hO3
  have hB3z := hB3.size
  clear hO3
  go_wp2_with fail
  refine (some21 _ _ _ (by omega) (by omega)).mono ?_
  rintro e w' ⟨kk, rfl, kk0, kk1, rfl⟩
  obtain ⟨k, rfl⟩ : ∃ k : Nat, kk = (k : Int) := ⟨kk.toNat, by omega⟩
  obtain ⟨v, hv⟩ : ∃ v, L[k]? = some v := ⟨_, List.getElem?_eq_getElem (by omega)⟩
  have hvb := HV.out v (List.mem_of_getElem? hv)
  obtain ⟨d0, df⟩ := HO3.out.at hv
  have HVK := Lib.hid hv
  clear hv
  go_wp2_with fail
  refine (some21 _ _ _ (by omega) (by omega)).mono ?_
  rintro e w' ⟨r, rfl, r0, r1, rfl⟩
  have et : (v + 1 + r).tmod 256 = (v + 1 + r) % 256 := by rw [Int.tmod_eq_emod_of_nonneg (by omega)]
  obtain ⟨u, hu⟩ : ∃ u, (v + 1 + r) % 256 = u := ⟨_, rfl⟩
  have hub : 0 ≤ u ∧ u ≤ 255 ∧ u ≠ v := by omega
  rw [hu] at et
  have HU := Lib.hid (And.intro hu hub.2.2)
  clear hu
  have hub1 : 0 ≤ u ∧ u ≤ 255 := ⟨hub.1, hub.2.1⟩
  clear hub
  have hO4 := HO3.out.set k u
  have hB4 := hB3.setCell (p := ⟨g, k, none⟩) hg1 (.int .i64 u)
  have hB4z : w3.heap.size = (w3.setCell ⟨g, k, none⟩ (.int .i64 u)).heap.size := by simp [World.setCell]
  obtain ⟨n0, n1, n2, n3, n4, s4, _, _, _, _⟩ := hO4.cells
  have HO4 := Lib.hid (And.intro hO4 hB4)
  have hmx : ∀ v' ∈ L.set k u, 0 ≤ v' ∧ v' ≤ 65535 := fun v' hv' => by
    rcases List.mem_or_eq_of_mem_set hv' with h | h
    · have := HV.out v' h; omega
    · omega
  have HMX := Lib.hid hmx
  have hll : (L.set k u).length = Y * X := by rw [List.length_set]; exact hlen
  have hs1 : (sumF [L.set k u] != sumF [L]) = true := by simpa using sum_set HVK.out (by omega) (by omega) HU.out.2
  have hs2 : (sumF [L] == sumF [L]) = true := beq_self_eq_true _
  clear hO4 hB4 hmx
  rw [hll] at s4
  go_wp2_with fail
  refine (sum_any (Ls := [L.set k u]) X Y 0 0 HO4.out.1.rd (by simp) (by unfold maxLen; simp; omega) (by simp; exact ⟨by omega, fun v hv => HMX.out v hv⟩)).mono ?_
  rintro e w5 ⟨rfl, hb5⟩
  have hO5 := HO4.out.1.keep hb5
  have hB5 := HO4.out.2.trans (hb5.mono HO4.out.2.size)
  clear m0 m1 m2 m3 m4 r4 d0 df n0 n1 n2 n3 n4 s4 hb5
  obtain ⟨d0, df⟩ := hO5.at (k := k) (v := u) (List.getElem?_set_self (by omega))
  have hO6 := hO5.set k v
  have hLL : (L.set k u).set k v = L := by
    apply List.ext_getElem?
    intro q
    rw [List.set_set, List.getElem?_set]
    by_cases hq : k = q
    · subst hq
      rw [if_pos rfl, if_pos (by omega), HVK.out]
    · rw [if_neg hq]
  rw [hLL] at hO6
  have hB6 := hB5.setCell (p := ⟨g, k, none⟩) hg1 (.int .i64 v)
  obtain ⟨n0, n1, n2, n3, n4, s4, _, _, _, _⟩ := hO6.cells
  have HO6 := Lib.hid (And.intro hO6 hB6)
  clear hO5 hO6 hB5 hB6 hLL hB4z hB3 hB3z
  generalize sumF [L.set k u] = S2 at *
  go_wp2_with fail
  refine (sum_any (Ls := [L]) X Y 0 0 HO6.out.1.rd (by simp) (by unfold maxLen; simp; omega) (by simp; exact ⟨by omega, fun v hv => by have := HV.out v hv; omega⟩)).mono ?_
  rintro e w7 ⟨rfl, hb7⟩
  have hB7 := HO6.out.2.trans (hb7.mono HO6.out.2.size)
  clear hb7
  generalize sumF [L] = S1 at *
  go_wp2
  go_ret
  exact ⟨rfl, hB7⟩
end Go.Proofs.Ytjmkkjgchgcleaa
